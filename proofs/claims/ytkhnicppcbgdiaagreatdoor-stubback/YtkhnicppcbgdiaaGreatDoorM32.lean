/-
  Stub names that two things have: what is asked, and the walk over the program's own oneNameTwice.
-/
import Derived.Test.YtkhnicppcbgdiaaGreatDoorM31
namespace Go.Proofs.YtkhnicppcbgdiaaGreatDoor
set_option linter.unusedVariables false
open Go.ChangeShapes Go.WideShapes Go.ChangeAt Go.RowKit Go.Maps Go.WideMaps

theorem rowMeth : (75 : TypeId) < Tryz.prog.types.size := of_decide_eq_true (by kernel_rfl)
theorem keyAtMeth : Tryz.prog.keyTypeAt 2 75 = true := by kernel_rfl
theorem lawMeth : KeyLaw Tryz.prog 75 := deep_law_laid laidOutS (m := 2) (by decide) rowMeth keyAtMeth (by kernel_rfl)
theorem keyedMeth : Keyed Tryz.prog 75 := Keyed.of_law lawMeth
theorem keyMeth (x : List UInt8 × List UInt8) (h : okP x) : keyOf Tryz.prog 75 (.agg #[.string (mkB x.1), .string (mkB x.2)]) = some (litP x) := by
  obtain ⟨m, hm⟩ := typesPair
  have h1 : (mkB x.1).size ≤ maxLen := by rw [mkB_sz]; have := h.1; unfold maxLen; omega
  have h2 : (mkB x.2).size ≤ maxLen := by rw [mkB_sz]; have := h.2; unfold maxLen; omega
  have hk : Tryz.prog.keyType 75 = true := by kernel_rfl
  have hc : Tryz.prog.cellsOf 75 = 2 := by kernel_rfl
  have hc9 : Tryz.prog.cellsOf 9 = 1 := by kernel_rfl
  unfold keyOf
  simp only [Tryz.underlying75]
  rw [hk, hm]
  simp [Value.formed, Tryz.underlying75, hc, hc9, Program.keyLits, Value.cells, Tryz.underlying9, h1, h2, litP]
  rfl
theorem keyStr (x : List UInt8) (h : x.length ≤ 100000) : keyOf Tryz.prog 9 (.string (mkB x)) = some (litS x) := by
  have h1 : (mkB x).size ≤ maxLen := by rw [mkB_sz]; unfold maxLen; omega
  have := keyOf_string_mk (P := Tryz.prog) (s := mkB x) Tryz.underlying9 h1
  simpa [litS, mkB] using this
/-- the keys of the methods' stubs and of the messages' -/
def keyT (t : TD) : List UInt8 × List UInt8 := (camC t.service, camC t.name)
def keyM (m : MD) : List UInt8 := undL m.name
def adjB (ts : List TD) : Nat → Bool
  | 0 => false
  | j + 1 => match ts[j + 1]?, ts[j]? with
    | some a, some b => decide (a.service ≠ b.service) && decide (camC a.service = camC b.service)
    | _, _ => false
def ClashS (s : SC) : Prop := (∃ i, adjB s.ts i = true) ∨ ¬ (s.ts.map keyT).Nodup ∨ ¬ (s.ms.map keyM).Nodup
theorem camel_lenK : ∀ (l : List Int) (b : Bool), (camelL b l).length ≤ l.length
  | [], b => by simp [camelL]
  | x :: t, b => by
    have := camel_lenK t true; have := camel_lenK t false
    rw [camelL]; split <;> simp <;> omega
theorem encL_lenK : ∀ l : List Int, l.length ≤ (encL l).length ∧ (encL l).length ≤ 4 * l.length
  | [] => by simp [encL]
  | r :: t => by have := encL_lenK t; have := enc_len r; rw [encL_cons]; simp; omega
theorem camC_len (l : List UInt8) : (camC l).length ≤ 100000 := by
  unfold camC
  split
  · rename_i h
    have h1 := camel_lenK (runes (mkB l)) true
    have h2 := (encL_lenK (camelL true (runes (mkB l)))).2
    have h3 : (runes (mkB l)).length ≤ 40 := by
      unfold nameOf at h
      simp only [Bool.and_eq_true, decide_eq_true_iff] at h
      exact h.1.1.2
    omega
  · simp
theorem nodup_snoc {α : Type} {l : List α} {x : α} : (l ++ [x]).Nodup ↔ l.Nodup ∧ x ∉ l := by
  rw [List.nodup_append]
  constructor
  · rintro ⟨h1, _, h3⟩
    exact ⟨h1, fun h => h3 x h x (List.mem_singleton.2 rfl) rfl⟩
  · rintro ⟨h1, h2⟩
    refine ⟨h1, by simp, fun a ha b hb e => ?_⟩
    rw [List.mem_singleton.1 hb] at e
    subst e; exact h2 ha
/-- a count that grows with each new one -/
theorem count_of {α : Type} (f : List α → Nat) (h0 : f [] = 0) (ks : List α) (h : ∀ k x, ks[k]? = some x → (x ∈ ks.take k → f (ks.take (k + 1)) = f (ks.take k)) ∧ (x ∉ ks.take k → f (ks.take (k + 1)) = f (ks.take k) + 1)) :
    ∀ k, k ≤ ks.length → f (ks.take k) ≤ k ∧ (f (ks.take k) < k ↔ ¬ (ks.take k).Nodup)
  | 0, _ => by simp [h0]
  | k + 1, hk => by
    obtain ⟨i1, i2⟩ := count_of f h0 ks h k (by omega)
    obtain ⟨x, hx⟩ : ∃ x, ks[k]? = some x := ⟨_, List.getElem?_eq_getElem (by omega)⟩
    have e : ks.take (k + 1) = ks.take k ++ [x] := by rw [List.take_add_one, hx]; rfl
    have hs := h k x hx
    rw [e] at hs ⊢
    rw [nodup_snoc]
    by_cases hm : x ∈ ks.take k
    · rw [hs.1 hm]
      simp only [hm, not_true, and_false, not_false_eq_true, iff_true]
      omega
    · rw [hs.2 hm]
      simp only [hm, not_false_eq_true, and_true]
      refine ⟨by omega, ?_⟩
      rw [← i2]; omega
theorem countP (ks : List (List UInt8 × List UInt8)) (hks : ∀ y ∈ ks, okP y) : Maps.size (setOf (H := Unit) (.agg []) (ks.map litP)) ≤ ks.length ∧ (Maps.size (setOf (H := Unit) (.agg []) (ks.map litP)) < ks.length ↔ ¬ ks.Nodup) := by
  have := count_of (fun l => Maps.size (setOf (H := Unit) (.agg []) (l.map litP))) (by rfl) ks (fun k x hx => by
    have e : ks.take (k + 1) = ks.take k ++ [x] := by rw [List.take_add_one, hx]; rfl
    rw [e, List.map_append, List.map_cons, List.map_nil, setOf_snoc]
    rw [pair_size _ (fun y hy => hks y (List.mem_of_mem_take hy)) x (hks x (List.mem_of_getElem? hx))]
    exact ⟨fun h => by rw [if_pos h]; rfl, fun h => by rw [if_neg h]⟩) ks.length (Nat.le_refl _)
  simpa using this
theorem countS (ks : List (List UInt8)) : Maps.size (setOf (H := Unit) (.agg []) (ks.map litS)) ≤ ks.length ∧ (Maps.size (setOf (H := Unit) (.agg []) (ks.map litS)) < ks.length ↔ ¬ ks.Nodup) := by
  have := count_of (fun l => Maps.size (setOf (H := Unit) (.agg []) (l.map litS))) (by rfl) ks (fun k x hx => by
    have e : ks.take (k + 1) = ks.take k ++ [x] := by rw [List.take_add_one, hx]; rfl
    rw [e, List.map_append, List.map_cons, List.map_nil, setOf_snoc]
    rw [set_size litS_key litS_one _ x]
    exact ⟨fun h => by rw [if_pos h]; rfl, fun h => by rw [if_neg h]⟩) ks.length (Nat.le_refl _)
  simpa using this
def IsSetM (w : World) (b : Nat) (ks : List (List UInt8 × List UInt8)) : Prop := (∀ y ∈ ks, okP y) ∧ IsSet 75 litP w b ks
theorem adj_at {ts : List TD} {j : Nat} {a b : TD} (ha : ts[j + 1]? = some a) (hb : ts[j]? = some b) : adjB ts (j + 1) = (decide (a.service ≠ b.service) && decide (camC a.service = camC b.service)) := by
  simp only [adjB, ha, hb]
theorem rowsL_at {s : SC} {k : Nat} {t : TD} (h : s.ts[k]? = some t) : (rowsL s)[k]? = some (rowL s.ms t) := by unfold rowsL; rw [List.getElem?_map, h]; rfl
theorem adj_end (ts : List TD) (j : Nat) (h : ts.length ≤ j) : adjB ts j = false := by
  cases j with
  | zero => rfl
  | succ j => simp only [adjB]; rw [List.getElem?_eq_none h]
def ClAns (s : SC) (w : World) (e : Ending) (w' : World) : Prop := ∃ b, e = .returned (.bool b) ∧ (b = true ↔ ClashS s) ∧ Below w.heap.size w w'
set_option maxHeartbeats 32000000 in
set_option maxRecDepth 20000 in
theorem twice_any (ma ea ta ra : Option Addr) (nm ne nt mc ec tc rc : Nat) (s : SC) (w : World) (hM : Mx w) (hnm : s.ms.length = nm) (hnt : s.ts.length = nt) (hf : FitS s) (hH : HeldSc w (fun b => b < w.heap.size) (.slice ma nm mc) (.slice ea ne ec) (.slice ta nt tc) s) (hR : RowsIn w (fun b => b < w.heap.size) 5 rrow (.slice ra nt rc) (rowsL s)) :
    Calls Tryz.prog 18 #[.agg #[.slice ma nm mc, .slice ea ne ec, .slice ta nt tc], .slice ra nt rc] w fun e w' => ClAns s w e w' := by
  have HM := Lib.hid hM
  have HNM := Lib.hid hnm
  have HNT := Lib.hid hnt
  have HF := Lib.hid hf
  have hntl : nt ≤ 100000 := by rw [← hnt]; exact hf.2.2.2.1
  have hnml : nm ≤ 100000 := by rw [← hnm]; exact hf.1.1
  have HHM : Hid (HeldM w (fun b => b < w.heap.size) (.slice ma nm mc) s.ms) := hH.1
  have HHT : Hid (RowsIn w (fun b => b < w.heap.size) 5 tdrow (.slice ta nt tc) s.ts) := hH.2.2
  have HR := Lib.hid hR
  obtain ⟨Y, hY, hC, hb, hYs⟩ := box_new w #[.slice ma nm mc, .slice ea ne ec, .slice ta nt tc] 26
  obtain ⟨V1, hV1, hM1, hVb1, hVs1⟩ := map_new Y
  obtain ⟨V2, hV2, hM2, hVb2, hVs2⟩ := map_new V1
  have HY := Lib.hid hY
  have HV1 := Lib.hid hV1
  have HV2 := Lib.hid hV2
  have HBV := Lib.hid ((hb.trans (hVb1.mono hb.size)).trans (hVb2.mono (by omega)))
  have HSC := Lib.hid ((hVb2.block _ (by omega)).trans ((hVb1.block _ (by omega)).trans hC))
  rw [hYs] at hM1
  rw [hVs1, hYs] at hM2
  have HS1 : Hid (IsSetM V2 (w.heap.size + 1) ((s.ts.map keyT).take 0)) := ⟨(fun y hy => by cases hy), isSet_made _ _ ((hVb2.block _ (by omega)).trans hM1)⟩
  have HS2 : Hid (IsSet 9 litS V2 (w.heap.size + 1 + 1) ((s.ms.map keyM).take 0)) := isSet_made _ _ hM2
  have e1 : Y.heap.size = w.heap.size + 1 := hYs
  have e2 : V1.heap.size = w.heap.size + 1 + 1 := by omega
  have hmm := @run_makeMap Tryz.prog
  clear hY hV1 hV2 hC hb hM1 hM2 hVb1 hVb2 hYs hVs1 hVs2 hM hnm hnt hf hH hR
  go_enter Tryz.func18, Tryz.ntmps18
  go_upto_region 2 with fail
  rw [HY.out, HV1.out, HV2.out]
  clear hmm e1 e2 HY HV1 HV2
  go_wp2_with fail
  go_loopw [15] (fun i wr => ∃ k : Nat, i = .int .i64 (k : Int) ∧ k ≤ nt ∧ (∀ j, j < k → adjB s.ts j = false) ∧ Below w.heap.size w wr ∧ wr.heap[w.heap.size]? = some (.cells #[.slice ma nm mc, .slice ea ne ec, .slice ta nt tc] 26 (0, 0)) ∧ IsSetM wr (w.heap.size + 1) ((s.ts.map keyT).take k) ∧ IsSet 9 litS wr (w.heap.size + 1 + 1) ((s.ms.map keyM).take 0)) (fun i _ => nt - (intOf i).toNat)
  case atStart => exact ⟨0, rfl, Nat.zero_le _, fun j hj => absurd hj (Nat.not_lt_zero _), HBV.out, HSC.out, HS1.out, HS2.out⟩
  case round =>
    generalize wr = w3 at *
    obtain ⟨k, rfl, hk, hadj, hbel, hsc, hs1, hs2⟩ := hrel
    have HA := Lib.hid hadj
    have HB := Lib.hid hbel
    have HC3 := Lib.hid hsc
    have HT := Lib.hid hs1
    have HZ := Lib.hid hs2
    have hl2 := hs2.lt
    clear hadj hbel hsc hs1 hs2 HBV HSC HS1 HS2
    by_cases hkn : k < nt
    · obtain ⟨t, ht⟩ : ∃ t, s.ts[k]? = some t := ⟨_, List.getElem?_eq_getElem (by rw [HNT.out]; exact hkn)⟩
      obtain ⟨x, hx⟩ : ∃ x, rowL s.ms t = x := ⟨_, rfl⟩
      have hxr := rowsL_at ht
      rw [hx] at hxr
      have hxs : x.sv = camC t.service := by rw [← hx]; rfl
      have hxm : x.mt = camC t.name := by rw [← hx]; rfl
      obtain ⟨g, o, c, hsl, hg, hc1⟩ := rw_cells HR.out hxr
      have hra : ra = some ⟨g, o, none⟩ := (Value.slice.inj hsl).1
      subst hra
      obtain ⟨a0, a1, a2, a3, a4⟩ := hc1 w3 (HB.out.block g hg)
      have hk0 : (0 : Int) ≤ (k : Int) := by omega
      have hk1 : (k : Int) < (nt : Int) := by omega
      have hwk : IntKind.i64.wrap ((k : Int) + 1) = (k : Int) + 1 := by rw [IntKind.wrap_i64]; omega
      obtain ⟨U, hU, hC, hCb, hUs⟩ := box_new w3 #[.int .i64 x.id, .string (mkB x.sv), .string (mkB x.mt), .string (mkB x.inn), .string (mkB x.out)] 50
      have HU := Lib.hid hU
      have HTT := Lib.hid ht
      have HXS := Lib.hid hxs
      have HXM := Lib.hid hxm
      clear hU hx hsl hxr ht hxs hxm hc1
      go_upto_region 5 with fail
      rw [HU.out]
      have HUC := Lib.hid hC
      have HBU := Lib.hid (HB.out.trans (hCb.mono HB.out.size))
      have HSU := Lib.hid ((hCb.block _ (by omega)).trans HC3.out)
      have HTU : Hid (IsSetM U (w.heap.size + 1) ((s.ts.map keyT).take k)) := ⟨HT.out.1, HT.out.2.old (hCb.block _ (by omega))⟩
      have HZU : Hid (IsSet 9 litS U (w.heap.size + 1 + 1) ((s.ms.map keyM).take 0)) := HZ.out.old (hCb.block _ hl2)
      have l1 : U.cell? ⟨w3.heap.size, 1, none⟩ = some (.string (mkB x.sv)) := cell_at hC 1 rfl
      have l2 : U.cell? ⟨w3.heap.size, 2, none⟩ = some (.string (mkB x.mt)) := cell_at hC 2 rfl
      have hUl := blk_lt hC
      clear hC hCb a0 a1 a2 a3 a4 HT HZ HU
      have HSTEP : Hid ((s.ts.map keyT).take (k + 1) = (s.ts.map keyT).take k ++ [(x.sv, x.mt)]) := by
        refine (?_ : _ = _)
        rw [List.take_add_one, List.getElem?_map, HTT.out, HXS.out, HXM.out]
        rfl
      have hkey := keyMeth (x.sv, x.mt) (by rw [HXS.out, HXM.out]; exact ⟨camC_len _, camC_len _⟩)
      have HADD : Hid (∀ W, Below U.heap.size U W → adjB s.ts k = false → W.heap[w.heap.size + 1]? = U.heap[w.heap.size + 1]? → True) := fun _ _ _ _ => trivial
      clear HADD
      rcases Nat.eq_zero_or_pos k with hk00 | hkp
      · have hkc : ¬ (0 : Int) < (k : Int) := by omega
        have hkn0 : ¬ 0 < k := by omega
        have HNA : Hid (∀ j, j < k + 1 → adjB s.ts j = false) := fun j hj => by
          obtain rfl : j = 0 := by omega
          rfl
        clear hk00
        go_quiet (fail)
        have hbn : Below U.heap.size U (U.drewN nq) := ⟨rfl, rfl, rfl, Nat.le_refl _, fun _ _ => rfl⟩
        have HBN := Lib.hid (HBU.out.trans (hbn.mono HBU.out.size))
        have m1 : (U.drewN nq).cell? ⟨w3.heap.size, 1, none⟩ = some (.string (mkB x.sv)) := l1
        have m2 : (U.drewN nq).cell? ⟨w3.heap.size, 2, none⟩ = some (.string (mkB x.mt)) := l2
        have HSN : Hid ((U.drewN nq).heap[w.heap.size]? = some (.cells #[.slice ma nm mc, .slice ea ne ec, .slice _ nt tc] 26 (0, 0))) := HSU.out
        have HTN : Hid (IsSetM (U.drewN nq) (w.heap.size + 1) ((s.ts.map keyT).take k)) := HTU.out
        have HZN : Hid (IsSet 9 litS (U.drewN nq) (w.heap.size + 1 + 1) ((s.ms.map keyM).take 0)) := HZU.out
        have hl2' : w.heap.size + 1 + 1 < (U.drewN nq).heap.size := HZN.out.lt
        clear l1 l2 hbn
        generalize U.drewN nq = U2 at *
        obtain ⟨nn, hnn, hown⟩ := HTN.out.2
        have HOWN := Lib.hid hown
        have hnk : nn ≤ k := by rw [List.length_take] at hnn; omega
        clear hown hnn
        go_wp2_with (first
          | (at_mapUpdate; refine wpList_mapUpdate_own _ rfl _ _ _ 71 rfl 75 73 keyedMeth Tryz.underlying71 _ (w.heap.size + 1) nn (setOf (.agg []) (((s.ts.map keyT).take k).map litP)) rfl HOWN.out (by unfold maxLen; omega) _ _ _ rfl rfl hkey _ [] unitElem_mk ?_; intro U3 hown1 hgr1; have HOWN1 := Lib.hid hown1; have HGR := Lib.hid hgr1; clear hown1 hgr1 HOWN))
        have HB3 : Hid (Below w.heap.size w U3) := HBN.out.grown HGR.out HBN.out.size (fun b hb => by simp at hb; omega)
        have HS3 := Lib.hid ((HGR.out.block _ (by omega) (by simp)).trans HSN.out)
        have HZ3 : Hid (IsSet 9 litS U3 (w.heap.size + 1 + 1) ((s.ms.map keyM).take 0)) := HZN.out.old (HGR.out.block _ (by omega) (by simp))
        have HT3 : Hid (IsSetM U3 (w.heap.size + 1) ((s.ts.map keyT).take (k + 1))) := by
          refine (?_ : _ ∧ _)
          rw [HSTEP.out]
          refine ⟨fun y hy => ?_, nn + 1, ?_, ?_⟩
          · rcases List.mem_append.1 hy with h | h
            · exact HTN.out.1 y h
            · rw [List.mem_singleton.1 h, HXS.out, HXM.out]; exact ⟨camC_len _, camC_len _⟩
          · have : ((s.ts.map keyT).take k).length = k := by rw [List.length_take, List.length_map, HNT.out]; omega
            rw [List.length_append, this]; simp; omega
          · rw [List.map_append, List.map_cons, List.map_nil, setOf_snoc]
            exact HOWN1.out
        go_roundw
        case rel => exact ⟨k + 1, by go_num, by omega, HNA.out, HB3.out, HS3.out, HT3.out, HZ3.out⟩
        case measure => simp [intOf]; omega
      · have hkc : (0 : Int) < (k : Int) := by omega
        obtain ⟨j, hj⟩ : ∃ j, k = j + 1 := ⟨k - 1, by omega⟩
        have hwj : IntKind.i64.wrap ((k : Int) - 1) = (j : Int) := by rw [IntKind.wrap_i64]; omega
        have hj0 : (0 : Int) ≤ (j : Int) := by omega
        have hj1 : (j : Int) < (nt : Int) := by omega
        obtain ⟨tj, htj⟩ : ∃ t, s.ts[j]? = some t := ⟨_, List.getElem?_eq_getElem (by rw [HNT.out]; omega)⟩
        have hxj := rowsL_at htj
        obtain ⟨g', o', c', hsl', hg', hc1'⟩ := rw_cells HR.out hxj
        obtain ⟨rfl, rfl⟩ : g = g' ∧ o = o' := by
          have := (Value.slice.inj hsl').1
          simp only [Option.some.injEq, Addr.mk.injEq, and_true] at this
          exact this
        obtain ⟨_, b1, _, _, _⟩ := hc1' U (HBU.out.block g hg)
        have hbsv : (rowL s.ms tj).sv = camC tj.service := rfl
        rw [hbsv] at b1
        obtain ⟨ad, c0, hslt, hcc, hrows⟩ := HHT.out
        rcases hrows with h0 | ⟨gt, ot, had, hgt, hrow⟩
        · have := HTT.out; rw [h0] at this; simp at this
        have hta : ta = some ⟨gt, ot, none⟩ := by
          have := (Value.slice.inj hslt).1
          rw [this, had]
        subst hta
        have hbg := HBU.out.block gt hgt
        have q1 : U.cell? ⟨gt, ot + k * 5 + 1, none⟩ = some (.string (mkB t.service)) := by
          rw [World.cell?_of_block hbg]; have := hrow k t HTT.out 1 _ rfl; simpa [Nat.add_assoc] using this
        have q2 : U.cell? ⟨gt, ot + j * 5 + 1, none⟩ = some (.string (mkB tj.service)) := by
          rw [World.cell?_of_block hbg]; have := hrow j tj htj 1 _ rfl; simpa [Nat.add_assoc] using this
        have q0 : U.cell? ⟨w.heap.size, 2, none⟩ = some (.slice (some ⟨gt, ot, none⟩) nt tc) := cell_at HSU.out 2 rfl
        have HADJ : Hid (adjB s.ts k = (decide (t.service ≠ tj.service) && decide (x.sv = camC tj.service))) := by
          refine (?_ : _ = _)
          have h1 := HTT.out
          rw [hj] at h1
          rw [hj, adj_at h1 htj, HXS.out]
        clear hrow hslt had hcc hbg hbsv hc1' hsl' hxj htj hj
        obtain ⟨B1, hB1⟩ : ∃ b, decide (x.sv = camC tj.service) = b := ⟨_, rfl⟩
        obtain ⟨B2, hB2⟩ : ∃ b, decide (t.service ≠ tj.service) = b := ⟨_, rfl⟩
        have f1 : ((mkB x.sv).toList == (mkB (camC tj.service)).toList) = B1 := by rw [mk_eq, hB1]
        have f2 : ((mkB t.service).toList != (mkB tj.service).toList) = B2 := by
          rw [bne, mk_eq, ← hB2]; simp
        have f3 : ((mkB t.service).toList == (mkB tj.service).toList) = !B2 := by
          rw [mk_eq, ← hB2]; simp
        rw [hB1, hB2] at HADJ
        clear hB1 hB2
        have hgo : adjB s.ts k = true → ClashS s := fun h => .inl ⟨k, h⟩
        have HGO := Lib.hid hgo
        have HNX : Hid ((B2 && B1) = false → ∀ j, j < k + 1 → adjB s.ts j = false) := fun h j hj => by
          by_cases hjk : j < k
          · exact HA.out j hjk
          · obtain rfl : j = k := by omega
            rw [HADJ.out, h]
        clear hgo
        cases B1
        case false =>
          go_quiet (fail)
          have hbn : Below U.heap.size U (U.drewN nq) := ⟨rfl, rfl, rfl, Nat.le_refl _, fun _ _ => rfl⟩
          have HNA : Hid (∀ j, j < k + 1 → adjB s.ts j = false) := HNX.out (by simp)
          clear f1 f2 f3 b1 q0 q1 q2
          have HBN := Lib.hid (HBU.out.trans (hbn.mono HBU.out.size))
          have m1 : (U.drewN nq).cell? ⟨w3.heap.size, 1, none⟩ = some (.string (mkB x.sv)) := l1
          have m2 : (U.drewN nq).cell? ⟨w3.heap.size, 2, none⟩ = some (.string (mkB x.mt)) := l2
          have HSN : Hid ((U.drewN nq).heap[w.heap.size]? = some (.cells #[.slice ma nm mc, .slice ea ne ec, .slice _ nt tc] 26 (0, 0))) := HSU.out
          have HTN : Hid (IsSetM (U.drewN nq) (w.heap.size + 1) ((s.ts.map keyT).take k)) := HTU.out
          have HZN : Hid (IsSet 9 litS (U.drewN nq) (w.heap.size + 1 + 1) ((s.ms.map keyM).take 0)) := HZU.out
          have hl2' : w.heap.size + 1 + 1 < (U.drewN nq).heap.size := HZN.out.lt
          clear l1 l2 hbn
          generalize U.drewN nq = U2 at *
          obtain ⟨nn, hnn, hown⟩ := HTN.out.2
          have HOWN := Lib.hid hown
          have hnk : nn ≤ k := by rw [List.length_take] at hnn; omega
          clear hown hnn
          go_wp2_with (first
            | (at_mapUpdate; refine wpList_mapUpdate_own _ rfl _ _ _ 71 rfl 75 73 keyedMeth Tryz.underlying71 _ (w.heap.size + 1) nn (setOf (.agg []) (((s.ts.map keyT).take k).map litP)) rfl HOWN.out (by unfold maxLen; omega) _ _ _ rfl rfl hkey _ [] unitElem_mk ?_; intro U3 hown1 hgr1; have HOWN1 := Lib.hid hown1; have HGR := Lib.hid hgr1; clear hown1 hgr1 HOWN))
          have HB3 : Hid (Below w.heap.size w U3) := HBN.out.grown HGR.out HBN.out.size (fun b hb => by simp at hb; omega)
          have HS3 := Lib.hid ((HGR.out.block _ (by omega) (by simp)).trans HSN.out)
          have HZ3 : Hid (IsSet 9 litS U3 (w.heap.size + 1 + 1) ((s.ms.map keyM).take 0)) := HZN.out.old (HGR.out.block _ (by omega) (by simp))
          have HT3 : Hid (IsSetM U3 (w.heap.size + 1) ((s.ts.map keyT).take (k + 1))) := by
            refine (?_ : _ ∧ _)
            rw [HSTEP.out]
            refine ⟨fun y hy => ?_, nn + 1, ?_, ?_⟩
            · rcases List.mem_append.1 hy with h | h
              · exact HTN.out.1 y h
              · rw [List.mem_singleton.1 h, HXS.out, HXM.out]; exact ⟨camC_len _, camC_len _⟩
            · have : ((s.ts.map keyT).take k).length = k := by rw [List.length_take, List.length_map, HNT.out]; omega
              rw [List.length_append, this]; simp; omega
            · rw [List.map_append, List.map_cons, List.map_nil, setOf_snoc]
              exact HOWN1.out
          go_roundw
          case rel => exact ⟨k + 1, by go_num, by omega, HNA.out, HB3.out, HS3.out, HT3.out, HZ3.out⟩
          case measure => simp [intOf]; omega
        case true =>
          cases B2
          case false =>
            go_quiet (fail)
            have hbn : Below U.heap.size U (U.drewN nq) := ⟨rfl, rfl, rfl, Nat.le_refl _, fun _ _ => rfl⟩
            have HNA : Hid (∀ j, j < k + 1 → adjB s.ts j = false) := HNX.out (by simp)
            clear f1 f2 f3 b1 q0 q1 q2
            have HBN := Lib.hid (HBU.out.trans (hbn.mono HBU.out.size))
            have m1 : (U.drewN nq).cell? ⟨w3.heap.size, 1, none⟩ = some (.string (mkB x.sv)) := l1
            have m2 : (U.drewN nq).cell? ⟨w3.heap.size, 2, none⟩ = some (.string (mkB x.mt)) := l2
            have HSN : Hid ((U.drewN nq).heap[w.heap.size]? = some (.cells #[.slice ma nm mc, .slice ea ne ec, .slice _ nt tc] 26 (0, 0))) := HSU.out
            have HTN : Hid (IsSetM (U.drewN nq) (w.heap.size + 1) ((s.ts.map keyT).take k)) := HTU.out
            have HZN : Hid (IsSet 9 litS (U.drewN nq) (w.heap.size + 1 + 1) ((s.ms.map keyM).take 0)) := HZU.out
            have hl2' : w.heap.size + 1 + 1 < (U.drewN nq).heap.size := HZN.out.lt
            clear l1 l2 hbn
            generalize U.drewN nq = U2 at *
            obtain ⟨nn, hnn, hown⟩ := HTN.out.2
            have HOWN := Lib.hid hown
            have hnk : nn ≤ k := by rw [List.length_take] at hnn; omega
            clear hown hnn
            go_wp2_with (first
              | (at_mapUpdate; refine wpList_mapUpdate_own _ rfl _ _ _ 71 rfl 75 73 keyedMeth Tryz.underlying71 _ (w.heap.size + 1) nn (setOf (.agg []) (((s.ts.map keyT).take k).map litP)) rfl HOWN.out (by unfold maxLen; omega) _ _ _ rfl rfl hkey _ [] unitElem_mk ?_; intro U3 hown1 hgr1; have HOWN1 := Lib.hid hown1; have HGR := Lib.hid hgr1; clear hown1 hgr1 HOWN))
            have HB3 : Hid (Below w.heap.size w U3) := HBN.out.grown HGR.out HBN.out.size (fun b hb => by simp at hb; omega)
            have HS3 := Lib.hid ((HGR.out.block _ (by omega) (by simp)).trans HSN.out)
            have HZ3 : Hid (IsSet 9 litS U3 (w.heap.size + 1 + 1) ((s.ms.map keyM).take 0)) := HZN.out.old (HGR.out.block _ (by omega) (by simp))
            have HT3 : Hid (IsSetM U3 (w.heap.size + 1) ((s.ts.map keyT).take (k + 1))) := by
              refine (?_ : _ ∧ _)
              rw [HSTEP.out]
              refine ⟨fun y hy => ?_, nn + 1, ?_, ?_⟩
              · rcases List.mem_append.1 hy with h | h
                · exact HTN.out.1 y h
                · rw [List.mem_singleton.1 h, HXS.out, HXM.out]; exact ⟨camC_len _, camC_len _⟩
              · have : ((s.ts.map keyT).take k).length = k := by rw [List.length_take, List.length_map, HNT.out]; omega
                rw [List.length_append, this]; simp; omega
              · rw [List.map_append, List.map_cons, List.map_nil, setOf_snoc]
                exact HOWN1.out
            go_roundw
            case rel => exact ⟨k + 1, by go_num, by omega, HNA.out, HB3.out, HS3.out, HT3.out, HZ3.out⟩
            case measure => simp [intOf]; omega
          case true =>
            go_quiet (fail)
            have hbn : Below U.heap.size U (U.drewN nq) := ⟨rfl, rfl, rfl, Nat.le_refl _, fun _ _ => rfl⟩
            have HBN := Lib.hid (HBU.out.trans (hbn.mono HBU.out.size))
            clear f1 f2 f3 b1 q0 q1 q2
            generalize U.drewN nq = U2 at *
            go_wp2_with fail
            go_ret
            exact ⟨true, rfl, ⟨fun _ => HGO.out (by rw [HADJ.out]; rfl), fun _ => rfl⟩, HBN.out⟩
    · obtain rfl : k = nt := by omega
      have HNADJ : Hid (∀ j, adjB s.ts j = false) := fun j => by
        by_cases h : j < k
        · exact HA.out j h
        · exact adj_end _ _ (by rw [HNT.out]; omega)
      have hT0 := HT.out
      rw [List.take_of_length_le (by rw [List.length_map, HNT.out]; omega)] at hT0
      have HT0 := Lib.hid hT0
      have c0 : w3.cell? ⟨w.heap.size, 0, none⟩ = some (.slice ma nm mc) := cell_at HC3.out 0 rfl
      clear hT0 HT HA
      go_wp2_with fail
      clear c0
      go_loopw [60] (fun i wr => ∃ q : Nat, i = .int .i64 (q : Int) ∧ q ≤ nm ∧ Below w.heap.size w wr ∧ wr.heap[w.heap.size]? = some (.cells #[.slice ma nm mc, .slice ea ne ec, .slice ta k tc] 26 (0, 0)) ∧ IsSetM wr (w.heap.size + 1) (s.ts.map keyT) ∧ IsSet 9 litS wr (w.heap.size + 1 + 1) ((s.ms.map keyM).take q)) (fun i _ => nm - (intOf i).toNat)
      case atStart => exact ⟨0, rfl, Nat.zero_le _, HB.out, HC3.out, HT0.out, HZ.out⟩
      case round =>
        generalize wr = w4 at *
        obtain ⟨q, rfl, hq, hbel, hsc, hs1, hs2⟩ := hrel
        have HB4 := Lib.hid hbel
        have HC4 := Lib.hid hsc
        have HT4 := Lib.hid hs1
        have HZ4 := Lib.hid hs2
        have hl4 := hs2.lt
        clear hbel hsc hs1 hs2 HB HC3 HT0 HZ hl2
        by_cases hqn : q < nm
        · obtain ⟨y, hy⟩ : ∃ y, s.ms[q]? = some y := ⟨_, List.getElem?_eq_getElem (by rw [HNM.out]; exact hqn)⟩
          obtain ⟨gm, om, cm, ka, kc, hsl, hgm, q0, q1, _⟩ := HeldN.at HHM.out (fun _ _ => rfl) hy
          have hma : ma = some ⟨gm, om, none⟩ := (Value.slice.inj hsl).1
          subst hma
          have hyl := (HF.out.2.1 y (List.mem_of_getElem? hy)).1
          have hbg := HB4.out.block gm hgm
          have a0 : w4.cell? ⟨gm, om + q * 2, none⟩ = some (.string (mkB y.name)) := by rw [World.cell?_of_block hbg]; exact q0
          have a1 : w4.cell? ⟨gm, om + q * 2 + 1, none⟩ = some (.slice ka y.fields.length kc) := by rw [World.cell?_of_block hbg]; exact q1
          have hk0 : (0 : Int) ≤ (q : Int) := by omega
          have hk1 : (q : Int) < (nm : Int) := by omega
          have hwk : IntKind.i64.wrap ((q : Int) + 1) = (q : Int) + 1 := by rw [IntKind.wrap_i64]; omega
          obtain ⟨U, hU, hC, hCb, hUs⟩ := box_new w4 #[.string (mkB y.name), .slice ka y.fields.length kc] 46
          have HU := Lib.hid hU
          have HSTEP : Hid ((s.ms.map keyM).take (q + 1) = (s.ms.map keyM).take q ++ [undL y.name]) := by
            refine (?_ : _ = _)
            rw [List.take_add_one, List.getElem?_map, hy]
            rfl
          clear hU hsl hy hbg q0 q1
          go_upto_region 12 with fail
          rw [HU.out]
          have HBU := Lib.hid (HB4.out.trans (hCb.mono HB4.out.size))
          have HSU := Lib.hid ((hCb.block _ (by omega)).trans HC4.out)
          have HTU : Hid (IsSetM U (w.heap.size + 1) (s.ts.map keyT)) := ⟨HT4.out.1, HT4.out.2.old (hCb.block _ (by omega))⟩
          have HZU : Hid (IsSet 9 litS U (w.heap.size + 1 + 1) ((s.ms.map keyM).take q)) := HZ4.out.old (hCb.block _ hl4)
          have l0 : U.cell? ⟨w4.heap.size, 0, none⟩ = some (.string (mkB y.name)) := cell_at hC 0 rfl
          have l1 : U.cell? ⟨w4.heap.size, 1, none⟩ = some (.slice ka y.fields.length kc) := cell_at hC 1 rfl
          have hms := messageStub_any y.name ka y.fields.length kc U (HM.out.below HBU.out) hyl
          have hUl := hCb.size
          clear hC hCb a0 a1 HT4 HZ4 HU
          go_wp2_with fail
          refine hms.mono ?_
          rintro e U2 ⟨rfl, hb⟩
          have HB2 := Lib.hid (HBU.out.trans (hb.mono HBU.out.size))
          have HS2 := Lib.hid ((hb.block _ (by omega)).trans HSU.out)
          have HT2 : Hid (IsSetM U2 (w.heap.size + 1) (s.ts.map keyT)) := ⟨HTU.out.1, HTU.out.2.old (hb.block _ (by omega))⟩
          have HZ2 : Hid (IsSet 9 litS U2 (w.heap.size + 1 + 1) ((s.ms.map keyM).take q)) := HZU.out.old (hb.block _ (by omega))
          have hl5 := HZ2.out.lt
          obtain ⟨nn, hnn, hown⟩ := HZ2.out
          have HOWN := Lib.hid hown
          have hnk : nn ≤ q := by rw [List.length_take] at hnn; omega
          have hkey := keyStr (undL y.name) (by rw [undL_len]; exact hyl)
          clear hown hnn hb hms l0 l1 HSU HTU HZU
          go_wp2_with (first
            | (at_mapUpdate; refine wpList_mapUpdate_own _ rfl _ _ _ 72 rfl 9 73 keyedS Tryz.underlying72 _ (w.heap.size + 1 + 1) nn (setOf (.agg []) (((s.ms.map keyM).take q).map litS)) rfl HOWN.out (by unfold maxLen; omega) _ _ _ rfl rfl hkey _ [] unitElem_mk ?_; intro U3 hown1 hgr1; have HOWN1 := Lib.hid hown1; have HGR := Lib.hid hgr1; clear hown1 hgr1 HOWN))
          have HB3 : Hid (Below w.heap.size w U3) := HB2.out.grown HGR.out HB2.out.size (fun b hb => by cases hb; omega)
          have HS3 := Lib.hid ((HGR.out.block _ (by omega) (by simp; omega)).trans HS2.out)
          have HT3 : Hid (IsSetM U3 (w.heap.size + 1) (s.ts.map keyT)) := ⟨HT2.out.1, HT2.out.2.old (HGR.out.block _ (by omega) (by simp))⟩
          have HZ3 : Hid (IsSet 9 litS U3 (w.heap.size + 1 + 1) ((s.ms.map keyM).take (q + 1))) := by
            refine (?_ : IsSet _ _ _ _ _)
            rw [HSTEP.out]
            refine ⟨nn + 1, ?_, ?_⟩
            · have : ((s.ms.map keyM).take q).length = q := by rw [List.length_take, List.length_map, HNM.out]; omega
              rw [List.length_append, this]; simp; omega
            · rw [List.map_append, List.map_cons, List.map_nil, setOf_snoc]
              exact HOWN1.out
          go_roundw
          case rel => exact ⟨q + 1, by go_num, by omega, HB3.out, HS3.out, HT3.out, HZ3.out⟩
          case measure => simp [intOf]; omega
        · obtain rfl : q = nm := by omega
          have c1 := countP (s.ts.map keyT) HT4.out.1
          have c2 := countS (s.ms.map keyM)
          rw [List.length_map, HNT.out] at c1
          rw [List.length_map, HNM.out] at c2
          have hZ0 := HZ4.out
          rw [List.take_of_length_le (by rw [List.length_map, HNM.out]; omega)] at hZ0
          obtain ⟨n1, hn1, hown1⟩ := HT4.out.2
          obtain ⟨n2, hn2, hown2⟩ := hZ0
          have HO1 := Lib.hid hown1
          have HO2 := Lib.hid hown2
          obtain ⟨D1, hD1⟩ : ∃ D, setOf (H := Unit) (.agg []) ((s.ts.map keyT).map litP) = D := ⟨_, rfl⟩
          obtain ⟨D2, hD2⟩ : ∃ D, setOf (H := Unit) (.agg []) ((s.ms.map keyM).map litS) = D := ⟨_, rfl⟩
          rw [hD1] at c1 HO1
          rw [hD2] at c2 HO2
          obtain ⟨z1, hz1⟩ : ∃ z, Maps.size D1 = z := ⟨_, rfl⟩
          obtain ⟨z2, hz2⟩ : ∃ z, Maps.size D2 = z := ⟨_, rfl⟩
          have HZ1 := Lib.hid hz1
          have HZ2 := Lib.hid hz2
          rw [hz1] at c1
          rw [hz2] at c2
          have C1 := Lib.hid c1.2
          have C2 := Lib.hid c2.2
          have c0 : w4.cell? ⟨w.heap.size, 0, none⟩ = some (.slice ma q mc) := cell_at HC4.out 0 rfl
          clear hown1 hown2 hD1 hD2 hz1 hz2 c1 c2 hn1 hn2 HT4 HZ4
          by_cases h1 : z1 < k
          · have h1i : ((z1 : Nat) : Int) < (k : Int) := by omega
            have HYES : Hid (ClashS s) := .inr (.inl (C1.out.1 h1))
            go_wp2_with (first
              | (at_len; refine wpList_len_own _ rfl _ 71 rfl 75 73 Tryz.underlying71 _ (w.heap.size + 1) n1 D1 rfl HO1.out ?_; rw [HZ1.out]))
            go_ret
            exact ⟨true, rfl, ⟨fun _ => HYES.out, fun _ => rfl⟩, HB4.out⟩
          · have h1i : ¬ ((z1 : Nat) : Int) < (k : Int) := by omega
            have HND1 : Hid ((s.ts.map keyT).Nodup) := Classical.byContradiction fun h => h1 (C1.out.2 h)
            obtain ⟨B, hB⟩ : ∃ B, decide (z2 < q) = B := ⟨_, rfl⟩
            have HB' := Lib.hid hB
            have hBi : decide (((z2 : Nat) : Int) < (q : Int)) = B := by rw [← hB]; simp
            have HRES : Hid (B = true ↔ ClashS s) := by
              refine (?_ : _ ↔ _)
              rw [← HB'.out, decide_eq_true_iff, C2.out]
              constructor
              · exact fun h => .inr (.inr h)
              · rintro (⟨i, hi⟩ | h | h)
                · rw [HNADJ.out i] at hi; cases hi
                · exact absurd HND1.out h
                · exact h
            have hlen2 := HO2.out.len Tryz.underlying72 3
            rw [HZ2.out] at hlen2
            clear hB h1
            go_wp2_with (first
              | (at_len; refine wpList_len_own _ rfl _ 71 rfl 75 73 Tryz.underlying71 _ (w.heap.size + 1) n1 D1 rfl HO1.out ?_; rw [HZ1.out]))
            rw [HB'.out]
            go_ret
            exact ⟨B, rfl, HRES.out, HB4.out⟩

end Go.Proofs.YtkhnicppcbgdiaaGreatDoor
