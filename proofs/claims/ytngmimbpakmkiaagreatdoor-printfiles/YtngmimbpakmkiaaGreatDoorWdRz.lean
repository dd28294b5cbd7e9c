/-
  The walk over the document's own Words: the words of a text, or its error, and place.
-/
import Derived.Test.YtngmimbpakmkiaaGreatDoorGmF
import Derived.Lib.Split
import Derived.Deep.RegionWith
import Derived.Deep.RegionLaw
import Derived.Deep.DeepCutAuto
namespace Go.Proofs.YtngmimbpakmkiaaGreatDoor
set_option linter.unusedVariables false
open Go.ChangeShapes Go.WideShapes Go.ChangeAt Go.RowKit

/-- what Words answers -/
def WAns (base : Nat) (a : List Wd × (Nat × Nat) × Int) (e : Ending) (w' : World) : Prop :=
  if a.2.2 = 0 then ∃ v, e = .returned (.tuple #[v, .agg #[.int .i64 0, .int .i64 0], .int .i64 0]) ∧ OwnW w' base v a.1
  else e = .returned (.tuple #[.slice none 0 0, .agg #[.int .i64 (a.2.1.1 : Int), .int .i64 (a.2.1.2 : Int)], .int .i64 a.2.2])
def strSz : Value → Nat
  | .string s => s.size
  | _ => 0
theorem heap_two (w : World) (a b : Obj) : ((w.alloc a).alloc b).heap[w.heap.size]? = some a ∧ ((w.alloc a).alloc b).heap[w.heap.size + 1]? = some b := by
  constructor
  · show ((w.heap.push a).push b)[w.heap.size]? = _
    rw [Array.getElem?_push_lt (by simp)]; simp
  · have : (w.heap.push a).size = w.heap.size + 1 := by simp
    show ((w.heap.push a).push b)[w.heap.size + 1]? = _
    rw [Array.getElem?_push, if_pos this.symm]
set_option maxHeartbeats 8000000 in
set_option maxRecDepth 20000 in
theorem wordsR_any (s : ByteArray) (w : World) (hT : Tabs w) (hs : s.size ≤ 9223372036854775807) :
    Calls Tryz.prog 34 #[.string s] w fun e w' => WAns (w.heap.size + 2) (wordsL s.data.toList) e w' ∧ Below w.heap.size w w' := by
  by_cases h2 : s.size ≤ 20000
  · have h2' : ¬ (20000 : Int) < (s.size : Int) := by omega
    have HW : Hid (wordsL s.data.toList = lexL s.data.toList.length s.data.toList 1 1 []) := by
      refine (?_ : _ = _)
      unfold wordsL; rw [if_neg (by rw [len_data]; omega)]
    have HT : Hid (Tabs w) := hT
    clear hT hs
    have hL := len_data s
    rw [hL] at HW
    have HL : Hid (s.data.toList.length = s.size) := hL
    clear hL
    obtain ⟨ANS, hANS⟩ : ∃ a, wordsL s.data.toList = a := ⟨_, rfl⟩
    rw [hANS] at HW ⊢
    clear hANS
    go_enter Tryz.func34, Tryz.ntmps34
    go_wp2_with fail
    go_loopw [0, 5] (fun s0 o wr => ∃ (t : ByteArray) (f line col : Nat) (acc : List Wd), s0 = .string t ∧ t.size ≤ f ∧ t.size ≤ 20000 ∧ line + t.size ≤ 20001 ∧ col + t.size ≤ 20001 ∧ acc.length ≤ 4000 ∧ St w wr w.heap.size line col o acc ∧ ANS = lexL f t.data.toList line col acc) (fun s0 _ _ => strSz s0)
    case atStart =>
      refine ⟨s, s.size, 1, 1, [], rfl, by omega, by omega, by omega, by omega, by simp, ⟨?_, ?_, ownW_nil _ _, ?_⟩, HW.out⟩
      · exact (heap_two w _ _).1
      · exact (heap_two w _ _).2
      · exact ((Below.refl _ w).alloc (Nat.le_refl _) _).alloc (by simp) _
    case round =>
      obtain ⟨t, f, line, col, acc, rfl, hf, ht2, hln, hcl, hac, hSt, hans⟩ := hrel
      have HA : Hid (ANS = lexL f t.data.toList line col acc) := hans
      clear hans
      obtain ⟨oa, oc, rfl⟩ := ownW_slice hSt.own
      have HS : Hid (St w wr w.heap.size line col (.slice oa acc.length oc) acc) := hSt
      have HTL : Hid (t.data.toList.length = t.size) := len_data t
      have hTr := tabs_below HT.out hSt.below
      have hszr := hSt.size
      clear hSt
      by_cases h0 : t.size = 0
      · have hz : ¬ (0 : Int) < (t.size : Int) := by omega
        obtain ⟨p0, p1, fz0, fz1, a0, a1, fa0, fa1⟩ := HS.out.cells
        obtain ⟨r0, r1, hO, hB⟩ := HS.out.final (.int .i64 0) (.int .i64 0)
        have HO : Hid (OwnW ((wr.setCell ⟨w.heap.size, 0, none⟩ (.int .i64 0)).setCell ⟨w.heap.size, 1, none⟩ (.int .i64 0)) (w.heap.size + 2) (.slice oa acc.length oc) acc) := hO
        have HE : Hid (ANS = (acc, (0, 0), 0)) := by
          refine (?_ : _ = _)
          have e : t.data.toList = [] := List.eq_nil_of_length_eq_zero (by rw [HTL.out]; exact h0)
          rw [HA.out, e, lexL_end]
        clear hTr hO
        go_wp2_with fail
        refine bodyPost_ret (v := .tuple #[.slice oa acc.length oc, .agg #[.int .i64 0, .int .i64 0], .int .i64 0]) (by simp [results, Tryz.results34, go_sem, r0, r1]) rfl ⟨?_, hB⟩
        rw [HE.out]
        unfold WAns
        rw [if_pos rfl]
        exact ⟨_, rfl, HO.out⟩
      · have hz : (0 : Int) < (t.size : Int) := by omega
        have hne : t.data.toList ≠ [] := by intro e; have := HTL.out; rw [e] at this; simp at this; omega
        have hwd := nx_width _ hne
        rw [HTL.out] at hwd
        have hNx := nextR_any t wr hTr
        obtain ⟨f, rfl⟩ : ∃ f', f = f' + 1 := ⟨f - 1, by omega⟩
        have HD1 : Hid ((t.extract 1 t.size).data.toList = t.data.toList.drop 1) := Lib.extract_to_end t 1
        have HZ1 : Hid ((t.extract 1 t.size).size = t.size - 1) := by
          refine (?_ : _ = _)
          rw [← len_data, HD1.out, List.length_drop, HTL.out]
        have hor := nx_le t.data.toList
        by_cases h10 : (nx t.data.toList).1 = 10
        · have HX : Hid (ANS = lexL f (t.extract 1 t.size).data.toList (line + 1) 1 acc) := by
            refine (?_ : _ = _)
            rw [HA.out, lexL_feed f _ line col acc hne h10, HD1.out]
          rw [h10] at hNx
          generalize (nx t.data.toList).2 = n at *
          clear HA h10 hor hne hTr
          go_wp2_with fail
          refine hNx.mono ?_
          rintro e w1 ⟨rfl, hb1⟩
          have HS1 : Hid (St w w1 w.heap.size line col (.slice oa acc.length oc) acc) := HS.out.old hb1
          obtain ⟨p0, p1, fz0, fz1, _, _, _, _⟩ := HS1.out.cells
          clear hNx hb1 HS
          have hw1 : IntKind.i64.wrap ((line : Int) + 1) = (line : Int) + 1 := by rw [IntKind.wrap_i64]; omega
          have HS2 : Hid (St w ((w1.setCell ⟨w.heap.size + 1, 0, none⟩ (.int .i64 ((line : Int) + 1))).setCell ⟨w.heap.size + 1, 1, none⟩ (.int .i64 1)) w.heap.size (line + 1) 1 (.slice oa acc.length oc) acc) :=
            (HS1.out.setPos 0 (.int .i64 ((line : Int) + 1)) (line + 1) col (by simp)).setPos 1 (.int .i64 1) (line + 1) 1 (by simp)
          go_wp2_with fail
          go_roundw
          case rel => exact ⟨t.extract 1 t.size, f, line + 1, 1, acc, rfl, by rw [HZ1.out]; omega, by rw [HZ1.out]; omega, by rw [HZ1.out]; omega, by rw [HZ1.out]; omega, hac, HS2.out, HX.out⟩
          case measure => show (t.extract 1 t.size).size < t.size; rw [HZ1.out]; omega
        · by_cases hbl : (nx t.data.toList).1 = 32 ∨ (nx t.data.toList).1 = 9
          · have HX : Hid (ANS = lexL f (t.extract 1 t.size).data.toList line (col + 1) acc) := by
              refine (?_ : _ = _)
              rw [HA.out, lexL_blank f _ line col acc hne hbl, HD1.out]
            generalize (nx t.data.toList).2 = n at *
            generalize (nx t.data.toList).1 = r at *
            have hw1 : IntKind.i64.wrap ((col : Int) + 1) = (col : Int) + 1 := by rw [IntKind.wrap_i64]; omega
            clear HA h10 hor hne hTr
            rcases hbl with rfl | rfl
            all_goals
              go_wp2_with fail
              refine hNx.mono ?_
              rintro e w1 ⟨rfl, hb1⟩
              have HS1 : Hid (St w w1 w.heap.size line col (.slice oa acc.length oc) acc) := HS.out.old hb1
              obtain ⟨p0, p1, fz0, fz1, _, _, _, _⟩ := HS1.out.cells
              have HS2 : Hid (St w (w1.setCell ⟨w.heap.size + 1, 1, none⟩ (.int .i64 ((col : Int) + 1))) w.heap.size line (col + 1) (.slice oa acc.length oc) acc) :=
                HS1.out.setPos 1 (.int .i64 ((col : Int) + 1)) line (col + 1) (by simp)
              clear hNx hb1 HS
              go_wp2_with fail
              go_roundw
              case rel => exact ⟨t.extract 1 t.size, f, line, col + 1, acc, rfl, by rw [HZ1.out]; omega, by rw [HZ1.out]; omega, by rw [HZ1.out]; omega, by rw [HZ1.out]; omega, hac, HS2.out, HX.out⟩
              case measure => show (t.extract 1 t.size).size < t.size; rw [HZ1.out]; omega
          · by_cases hrm : (nx t.data.toList).1 = 47 ∧ t.data.toList[1]? = some 47
            · have HX : Hid (ANS = lexL f (t.data.toList.drop (skipL t.data.toList.length t.data.toList).1) line (col + (skipL t.data.toList.length t.data.toList).2) acc) := by
                refine (?_ : _ = _)
                rw [HA.out, lexL_remark f _ line col acc hne hrm.1 hrm.2]
              have h1t : 1 < t.size := by
                have := (List.getElem?_eq_some_iff.1 hrm.2).1; rw [HTL.out] at this; exact this
              have h47 : t[1]'h1t = 47 := by have := at_data t 1 h1t; rw [hrm.2] at this; exact (Option.some.inj this).symm
              have h47' : (((t[1]'h1t).toNat : Int) == 47) = true := by rw [h47]; rfl
              have h1t' : (1 : Int) < (t.size : Int) := by omega
              have hsk : (skipL t.data.toList.length t.data.toList).1 ≤ t.size ∧ (skipL t.data.toList.length t.data.toList).2 ≤ (skipL t.data.toList.length t.data.toList).1 := by
                have := skipL_le t.data.toList.length t.data.toList; rw [HTL.out] at this ⊢; exact this
              have HSK1 : Hid (1 ≤ (skipL t.data.toList.length t.data.toList).1) := by
                refine (?_ : 1 ≤ _)
                obtain ⟨m, hm⟩ : ∃ m, t.data.toList.length = m + 1 := ⟨t.size - 1, by rw [HTL.out]; omega⟩
                rw [hm, skipL_step m _ hne (by
                  rw [List.head?_eq_getElem?, at_data t 0 (by omega)]
                  intro e
                  have e0 : t[0]'(by omega) = 10 := Option.some.inj e
                  have := hrm.1
                  have h0d := head_data t (by omega)
                  rw [h0d, e0, nx_ascii _ _ (by decide)] at this
                  exact absurd this (by decide))]
                simp only
                omega
              obtain ⟨K1, hK1⟩ : ∃ K1, (skipL t.data.toList.length t.data.toList).1 = K1 := ⟨_, rfl⟩
              obtain ⟨K2, hK2⟩ : ∃ K2, (skipL t.data.toList.length t.data.toList).2 = K2 := ⟨_, rfl⟩
              rw [hK1, hK2] at HX hsk
              rw [hK1] at HSK1
              have HK1 : Hid ((skipL t.data.toList.length t.data.toList).1 = K1) := hK1
              have HK2 : Hid ((skipL t.data.toList.length t.data.toList).2 = K2) := hK2
              rw [hrm.1] at hNx
              generalize (nx t.data.toList).2 = n at *
              clear HA h10 hor hbl hrm hK1 hK2 h47 hne
              have hTw : ∀ W, Below wr.heap.size wr W → Tabs W := fun W hb => tabs_below hTr hb
              go_wp2_with fail
              refine hNx.mono ?_
              rintro e w1 ⟨rfl, hb1⟩
              have HS1 : Hid (St w w1 w.heap.size line col (.slice oa acc.length oc) acc) := HS.out.old hb1
              have HSO := HS
              clear hNx HS hTr
              clear hb1 hTw
              go_wp2_with fail
              go_loopw [0] (fun s0 wq => ∃ (t' : ByteArray) (k m g : Nat), s0 = .string t' ∧ k ≤ t.size ∧ t'.size + k = t.size ∧ t'.size ≤ g ∧ m ≤ k ∧ t'.data.toList = t.data.toList.drop k ∧ K1 = k + (skipL g (t.data.toList.drop k)).1 ∧ K2 = m + (skipL g (t.data.toList.drop k)).2 ∧ St w wq w.heap.size line (col + m) (.slice oa acc.length oc) acc) (fun s0 _ => strSz s0)
              case atStart => exact ⟨t, 0, 0, t.data.toList.length, rfl, by omega, by omega, by rw [HTL.out]; omega, by omega, by simp, by rw [List.drop_zero, HK1.out]; omega, by rw [List.drop_zero, HK2.out]; omega, HS1.out⟩
              case round =>
                obtain ⟨t', k, m, g, rfl, hk, htk, hg, hmk, hdat, e1, e2, hSq⟩ := hrel
                have HDT : Hid (t'.data.toList = t.data.toList.drop k) := hdat
                have E1 : Hid (K1 = k + (skipL g (t.data.toList.drop k)).1) := e1
                have E2 : Hid (K2 = m + (skipL g (t.data.toList.drop k)).2) := e2
                have HSq : Hid (St w wr w.heap.size line (col + m) (.slice oa acc.length oc) acc) := hSq
                have hTq := tabs_below HT.out hSq.below
                clear hdat e1 e2 hSq
                by_cases h0' : t'.size = 0
                · have hz' : ¬ (0 : Int) < (t'.size : Int) := by omega
                  have HEQ : Hid (K1 = k ∧ K2 = m) := by
                    refine (?_ : _ ∧ _)
                    rw [E1.out, E2.out, skipL_stop g _ (.inl (by rw [← HDT.out]; exact List.eq_nil_of_length_eq_zero (by rw [len_data]; exact h0')))]
                    simp
                  have hk1 : K1 = k := HEQ.out.1
                  have hk2 : K2 = m := HEQ.out.2
                  clear hTq E1 E2
                  go_wp2_with fail
                  go_roundw
                  case rel => exact ⟨t', f, line, col + m, acc, rfl, by omega, by omega, by omega, by omega, hac, HSq.out, by rw [HX.out, hk1, hk2, HDT.out]⟩
                  case measure => show t'.size < t.size; have := HSK1.out; omega
                · have hz' : (0 : Int) < (t'.size : Int) := by omega
                  have hp' : 0 < t'.size := by omega
                  have hhd := head_data t' hp'
                  by_cases h10' : t'[0]'hp' = 10
                  · have hb10 : (((t'[0]'hp').toNat : Int) != 10) = false := by rw [h10']; rfl
                    have HEQ : Hid (K1 = k ∧ K2 = m) := by
                      refine (?_ : _ ∧ _)
                      rw [E1.out, E2.out, skipL_stop g _ (.inr (by rw [← HDT.out, hhd, h10']; rfl))]
                      simp
                    have hk1 : K1 = k := HEQ.out.1
                    have hk2 : K2 = m := HEQ.out.2
                    have hkp : 1 ≤ k := by have := HSK1.out; omega
                    clear hTq E1 E2 hhd h10'
                    go_wp2_with fail
                    go_roundw
                    case rel => exact ⟨t', f, line, col + m, acc, rfl, by omega, by omega, by omega, by omega, hac, HSq.out, by rw [HX.out, hk1, hk2, HDT.out]⟩
                    case measure => show t'.size < t.size; have := HSK1.out; omega
                  · have hb10 : (((t'[0]'hp').toNat : Int) != 10) = true := by
                      rw [bne_iff_ne]
                      intro e; apply h10'; apply UInt8.toNat_inj.1; show _ = 10; omega
                    have hne' : t'.data.toList ≠ [] := by rw [hhd]; simp
                    have hwd' := nx_width _ hne'
                    rw [len_data] at hwd'
                    have hNq := nextR_any t' wr hTq
                    obtain ⟨g, rfl⟩ : ∃ g', g = g' + 1 := ⟨g - 1, by omega⟩
                    have HST : Hid (K1 = (k + (nx t'.data.toList).2) + (skipL g (t.data.toList.drop (k + (nx t'.data.toList).2))).1 ∧ K2 = (m + 1) + (skipL g (t.data.toList.drop (k + (nx t'.data.toList).2))).2) := by
                      refine (?_ : _ ∧ _)
                      rw [E1.out, E2.out, skipL_step g _ (by rw [← HDT.out]; exact hne') (by rw [← HDT.out, hhd]; simpa using h10'), ← List.drop_drop, ← HDT.out]
                      simp only
                      omega
                    have HDX : Hid ((t'.extract (nx t'.data.toList).2 t'.size).data.toList = t.data.toList.drop (k + (nx t'.data.toList).2)) := by
                      refine (?_ : _ = _)
                      rw [Lib.extract_to_end, HDT.out, List.drop_drop]
                    have HZX : Hid ((t'.extract (nx t'.data.toList).2 t'.size).size = t'.size - (nx t'.data.toList).2) := by
                      refine (?_ : _ = _)
                      rw [← len_data, Lib.extract_to_end, List.length_drop, len_data]
                    generalize (nx t'.data.toList).2 = n' at *
                    generalize (nx t'.data.toList).1 = r' at *
                    have hw1 : IntKind.i64.wrap (((col + m : Nat) : Int) + 1) = ((col + m : Nat) : Int) + 1 := by rw [IntKind.wrap_i64]; omega
                    clear hTq E1 E2 hhd h10' hne'
                    obtain ⟨cm, hcm⟩ : ∃ cm, col + m = cm := ⟨_, rfl⟩
                    have HCM : Hid (col + m = cm) := hcm
                    rw [hcm] at hw1 HSq
                    have hcmb : cm + t'.size ≤ 20001 := by omega
                    clear hcm
                    go_wp2_with fail
                    refine hNq.mono ?_
                    rintro e w2 ⟨rfl, hb2⟩
                    have HS2 : Hid (St w w2 w.heap.size line cm (.slice oa acc.length oc) acc) := HSq.out.old hb2
                    obtain ⟨p0, p1, fz0, fz1, _, _, _, _⟩ := HS2.out.cells
                    have HS3 : Hid (St w (w2.setCell ⟨w.heap.size + 1, 1, none⟩ (.int .i64 ((cm : Int) + 1))) w.heap.size line (cm + 1) (.slice oa acc.length oc) acc) :=
                      HS2.out.setPos 1 (.int .i64 ((cm : Int) + 1)) line (cm + 1) (by simp)
                    have hn0 : (0 : Int) ≤ (n' : Int) := by omega
                    have hn1 : (n' : Int) ≤ (t'.size : Int) := by omega
                    clear hNq hb2 HSq
                    go_wp2_with fail
                    go_roundw
                    case rel =>
                      refine ⟨t'.extract n' t'.size, k + n', m + 1, g, rfl, by omega, by rw [HZX.out]; omega, by rw [HZX.out]; omega, by omega, HDX.out, HST.out.1, HST.out.2, ?_⟩
                      have e : col + (m + 1) = cm + 1 := by rw [← HCM.out]; omega
                      rw [e]; exact HS3.out
                    case measure => show (t'.extract n' t'.size).size < t'.size; rw [HZX.out]; omega
            · have hbg : begins t.data.toList := ⟨hne, h10, fun h => hbl (.inl h), fun h => hbl (.inr h), hrm⟩
              have HLX := lexL_word f _ line col acc hbg
              have hhb := headW_bd _ hne
              rw [HTL.out] at hhb
              have hway : ((nx t.data.toList).1 ≠ 47) ∨ ((nx t.data.toList).1 = 47 ∧ ¬ (1 : Int) < (t.size : Int)) ∨ ((nx t.data.toList).1 = 47 ∧ ∃ h1t : 1 < t.size, (((t[1]'h1t).toNat : Int) == 47) = false) := by
                by_cases h47 : (nx t.data.toList).1 = 47
                · by_cases h1t : 1 < t.size
                  · refine .inr (.inr ⟨h47, h1t, ?_⟩)
                    rw [beq_eq_false_iff_ne]
                    intro e
                    apply hrm
                    refine ⟨h47, ?_⟩
                    rw [at_data t 1 h1t]
                    congr 1
                    apply UInt8.toNat_inj.1; show _ = 47; omega
                  · exact .inr (.inl ⟨h47, by omega⟩)
                · exact .inl h47
              have hb10 : ((nx t.data.toList).1 == 10) = false := by simpa using h10
              have hb32 : ((nx t.data.toList).1 == 32) = false := beq_eq_false_iff_ne.2 fun h => hbl (.inl h)
              have hb9 : ((nx t.data.toList).1 == 9) = false := beq_eq_false_iff_ne.2 fun h => hbl (.inr h)
              by_cases hL : isLetter (nx t.data.toList).1 = true
              · have hnm : nameRune (nx t.data.toList).1 = true := by unfold nameRune; rw [hL]; rfl
                have hb47 : ((nx t.data.toList).1 == 47) = false := by
                  rw [beq_eq_false_iff_ne]
                  intro e
                  rw [e] at hL
                  exact absurd hL (by decide)
                have hhw : headW t.data.toList = (1, runL t.data.toList.length t.data.toList) := by unfold headW; rw [if_pos hL]
                rw [hhw] at HLX hhb
                simp only at HLX hhb
                rw [HTL.out] at HLX hhb
                have htk : t.data.toList.take (runL t.size t.data.toList).1 = (t.extract 0 (runL t.size t.data.toList).1).data.toList := (Lib.extract_from_zero t _).symm
                rw [htk] at HLX
                have HAL : Hid (ANS = _) := HA.out.trans HLX
                have hLe := fun W => letterR_any (nx t.data.toList).1 W
                have hDi := fun W => digitR_any (nx t.data.toList).1 W
                rw [hL] at hLe
                clear hL
                have hn0 : (0 : Int) ≤ ((nx t.data.toList).2 : Int) := by omega
                have hn1 : ((nx t.data.toList).2 : Int) ≤ (t.size : Int) := by omega
                have HDn : Hid ((t.extract (runL t.size t.data.toList).1 t.size).data.toList = t.data.toList.drop (runL t.size t.data.toList).1) := Lib.extract_to_end t _
                have HZn : Hid ((t.extract (runL t.size t.data.toList).1 t.size).size = t.size - (runL t.size t.data.toList).1) := by
                  refine (?_ : _ = _)
                  rw [← len_data, HDn.out, List.length_drop, HTL.out]
                have htxs : 1 ≤ (t.extract 0 (runL t.size t.data.toList).1).size ∧ (t.extract 0 (runL t.size t.data.toList).1).size ≤ 20000 := by
                  rw [← len_data, Lib.extract_from_zero, List.length_take, HTL.out]; omega
                obtain ⟨RN, hRN⟩ : ∃ RN, runL t.size t.data.toList = RN := ⟨_, rfl⟩
                have HRN : Hid (runL t.size t.data.toList = RN) := hRN
                rw [hRN] at HAL HDn HZn htxs hhb
                obtain ⟨N, m⟩ := RN
                simp only at HAL HDn HZn htxs hhb
                clear HLX htk hhw hbg hrm hbl h10 HA hne hnm hRN hway
                generalize (nx t.data.toList).2 = n at *
                generalize (nx t.data.toList).1 = r at *
                go_wp2_with fail
                refine hNx.mono ?_
                rintro e w1 ⟨rfl, hb1⟩
                have HS1 : Hid (St w w1 w.heap.size line col (.slice oa acc.length oc) acc) := HS.out.old hb1
                obtain ⟨p0, p1, fz0, fz1, _, _, _, _⟩ := HS1.out.cells
                have hT1 := tabs_below hTr hb1
                have q0 : ∀ o, (w1.alloc o).cell? ⟨w.heap.size + 1, 0, none⟩ = some (.int .i64 (line : Int)) := fun o => (HS1.out.alloc o).cells.1
                have q1 : ∀ o, (w1.alloc o).cell? ⟨w.heap.size + 1, 1, none⟩ = some (.int .i64 (col : Int)) := fun o => (HS1.out.alloc o).cells.2.1
                clear hNx hb1 HS hTr
                go_wp2_with fail
                go_region
                have HS2' : Hid (St w (w1.alloc (.cells #[.int .i64 3, .string (t.extract 0 n), .int .i64 (line : Int), .int .i64 (col : Int)] 114)).drew w.heap.size line col (.slice oa acc.length oc) acc) := (HS1.out.alloc _).drew
                have hT2' : Tabs (w1.alloc (.cells #[.int .i64 3, .string (t.extract 0 n), .int .i64 (line : Int), .int .i64 (col : Int)] 114)).drew := tabs_below hT1 (((Below.refl _ w1).alloc (Nat.le_refl _) _).drew)
                have HGC' : Hid ((w1.alloc (.cells #[.int .i64 3, .string (t.extract 0 n), .int .i64 (line : Int), .int .i64 (col : Int)] 114)).drew.heap[w1.heap.size]? = some (.cells #[.int .i64 3, .string (t.extract 0 n), .int .i64 (line : Int), .int .i64 (col : Int)] 114 (0, 0))) := by
                  refine (?_ : _ = _)
                  show (w1.heap.push _)[w1.heap.size]? = _
                  simp
                have HGO : Hid ((Value.slice oa acc.length oc).ownBlock ≠ some w1.heap.size) := ownW_lt HS1.out.own
                have hgB : w.heap.size + 2 ≤ w1.heap.size := HS1.out.size
                clear q0 q1 hT1 p0 p1 fz0 fz1
                generalize (w1.alloc (.cells #[.int .i64 3, .string (t.extract 0 n), .int .i64 (line : Int), .int .i64 (col : Int)] 114)).drew = W2 at *
                obtain ⟨g, hg⟩ : ∃ g, w1.heap.size = g := ⟨_, rfl⟩
                rw [hg] at HGC' HGO hgB ⊢
                clear hg HS1
                go_wp2_with fail
                refine (hLe _).mono ?_
                rintro e w9 ⟨rfl, h9⟩
                have h9 := h9.symm
                subst h9
                clear hLe hDi
                have hRn := runR_any t W2 hT2' (by omega)
                rw [HRN.out] at hRn
                go_wp2_with fail
                refine hRn.mono ?_
                rintro e W5 ⟨rfl, hb5⟩
                have HS5' : Hid (St w W5 w.heap.size line col (.slice oa acc.length oc) acc) := HS2'.out.old hb5
                have hglt' : g < W2.heap.size := (Array.getElem?_eq_some_iff.1 HGC'.out).1
                have HG5 : Hid (W5.heap[g]? = some (.cells #[.int .i64 3, .string (t.extract 0 n), .int .i64 (line : Int), .int .i64 (col : Int)] 114 (0, 0))) := by
                  refine (?_ : _ = _)
                  rw [hb5.block g hglt']; exact HGC'.out
                have hT5 := tabs_below hT2' hb5
                have y0 : W5.cell? ⟨g, 0, none⟩ = some (.int .i64 3) := by simp [World.cell?, HG5.out]
                have y1 : W5.cell? ⟨g, 1, none⟩ = some (.string (t.extract 0 n)) := by simp [World.cell?, HG5.out]
                have yf0 : W5.frozen? ⟨g, 0, none⟩ = false := by simp [World.frozen?, HG5.out]
                have yf1 : W5.frozen? ⟨g, 1, none⟩ = false := by simp [World.frozen?, HG5.out]
                clear hRn hb5 hglt' HS2' HGC' hT2'
                have hN0 : (0 : Int) ≤ (N : Int) := by omega
                have hNt : (N : Int) ≤ (t.size : Int) := by omega
                go_wp2_with fail
                go_region
                obtain ⟨tx, htx⟩ : ∃ tx, t.extract 0 N = tx := ⟨_, rfl⟩
                rw [htx] at HAL htxs ⊢
                have HS2' : Hid (St w ((W5.setCell ⟨g, 0, none⟩ (.int .i64 1)).setCell ⟨g, 1, none⟩ (.string tx)).drew w.heap.size line col (.slice oa acc.length oc) acc) := ((HS5'.out.setFar g 0 _ hgB HGO.out).setFar g 1 _ hgB HGO.out).drew
                have HGC' : Hid (((W5.setCell ⟨g, 0, none⟩ (.int .i64 1)).setCell ⟨g, 1, none⟩ (.string tx)).drew.heap[g]? = some (.cells #[.int .i64 1, .string tx, .int .i64 (line : Int), .int .i64 (col : Int)] 114 (0, 0))) := by
                  refine (?_ : _ = _)
                  have z1 : (W5.setCell ⟨g, 0, none⟩ (.int .i64 1)).heap[g]? = some (.cells #[.int .i64 1, .string (t.extract 0 n), .int .i64 (line : Int), .int .i64 (col : Int)] 114 (0, 0)) := by
                    rw [setCell_eq_setRow _ _ _ _ _ _ _ HG5.out, setRow_heap W5 g _ _ _ _ HG5.out]; rfl
                  show ((W5.setCell ⟨g, 0, none⟩ (.int .i64 1)).setCell ⟨g, 1, none⟩ (.string tx)).heap[g]? = _
                  rw [setCell_eq_setRow _ _ _ _ _ _ _ z1, setRow_heap _ g _ _ _ _ z1]; rfl
                have hT2 := tabs_below HT.out HS2'.out.below
                clear y0 y1 yf0 yf1 hT5 HS5' HG5 htx
                generalize ((W5.setCell ⟨g, 0, none⟩ (.int .i64 1)).setCell ⟨g, 1, none⟩ (.string tx)).drew = W2 at *
                have HS2 := HS2'
                have HGC := HGC'
                clear HS2' HGC'
                obtain ⟨htx1, htx2⟩ := htxs
                obtain ⟨hN1, hN2, hN3, _⟩ := hhb
                have hgr0 : W2.cell? ⟨g, 0, none⟩ = some (.int .i64 1) := by simp [World.cell?, HGC.out]
                have hgr1 : W2.cell? ⟨g, 1, none⟩ = some (.string tx) := by simp [World.cell?, HGC.out]
                have hgr2 : W2.cell? ⟨g, 2, none⟩ = some (.int .i64 (line : Int)) := by simp [World.cell?, HGC.out]
                have hgr3 : W2.cell? ⟨g, 3, none⟩ = some (.int .i64 (col : Int)) := by simp [World.cell?, HGC.out]
                have hRt := rightR_any 1 tx (line : Int) (col : Int) r W2 hT2 (by omega) htx1 (by omega)
                obtain ⟨RT, hRT⟩ : ∃ RT, rightL 1 tx.data.toList r = RT := ⟨_, rfl⟩
                rw [hRT] at hRt HAL
                clear hRT hT2
                have hglt : g < W2.heap.size := (Array.getElem?_eq_some_iff.1 HGC.out).1
                go_wp2_with fail
                refine hRt.mono ?_
                rintro e W3 ⟨rfl, hb3⟩
                have HS3 : Hid (St w W3 w.heap.size line col (.slice oa acc.length oc) acc) := HS2.out.old hb3
                have HG3 : Hid (W3.heap[g]? = some (.cells #[.int .i64 1, .string tx, .int .i64 (line : Int), .int .i64 (col : Int)] 114 (0, 0))) := by
                  refine (?_ : _ = _)
                  rw [hb3.block g hglt]; exact HGC.out
                clear hRt hgr0 hgr1 hgr2 hgr3 hglt hb3 HS2 HGC
                obtain ⟨p0, p1, fz0, fz1, a0, a1, fa0, fa1⟩ := HS3.out.cells
                cases RT with
                | false =>
                  obtain rfl : ANS = ([], (line, col), 6) := by rw [HAL.out, if_pos rfl]
                  obtain ⟨r0, r1, _, hB⟩ := HS3.out.final (.int .i64 (line : Int)) (.int .i64 (col : Int))
                  clear HAL
                  go_wp2_with fail
                  go_region
                  all_goals
                    go_wp2_with fail
                    refine bodyPost_ret (v := .tuple #[.slice none 0 0, .agg #[.int .i64 (line : Int), .int .i64 (col : Int)], .int .i64 6]) (by simp [results, Tryz.results34, go_sem, r0, r1]) rfl ⟨?_, hB.drew⟩
                    unfold WAns
                    rw [if_neg (by show ¬ (6 : Int) = 0; decide)]
                | true =>
                  by_cases hac4 : acc.length = 4000
                  · obtain rfl : ANS = ([], (line, col), 4) := by rw [HAL.out, if_neg (by decide), if_pos hac4]
                    obtain ⟨r0, r1, _, hB⟩ := HS3.out.final (.int .i64 (line : Int)) (.int .i64 (col : Int))
                    have h4 : ((acc.length : Int) == 4000) = true := by rw [beq_iff_eq]; omega
                    clear HAL hac4
                    go_wp2_with fail
                    go_region
                    all_goals
                      go_wp2_with fail
                      refine bodyPost_ret (v := .tuple #[.slice none 0 0, .agg #[.int .i64 (line : Int), .int .i64 (col : Int)], .int .i64 4]) (by simp [results, Tryz.results34, go_sem, r0, r1]) rfl ⟨?_, hB.drew⟩
                      unfold WAns
                      rw [if_neg (by show ¬ (4 : Int) = 0; decide)]
                  · have h4 : ((acc.length : Int) == 4000) = false := beq_eq_false_iff_ne.2 (by omega)
                    have HXW : Hid (ANS = lexL f (t.data.toList.drop N) line (col + m) (acc ++ [Wd.mk 1 tx.data.toList line col])) := by
                      refine (?_ : _ = _)
                      rw [HAL.out, if_neg (by decide), if_neg hac4]
                    have hgr0 : W3.cell? ⟨g, 0, none⟩ = some (.int .i64 1) := by simp [World.cell?, HG3.out]
                    have hgr1 : W3.cell? ⟨g, 1, none⟩ = some (.string tx) := by simp [World.cell?, HG3.out]
                    have hgr2 : W3.cell? ⟨g, 2, none⟩ = some (.int .i64 (line : Int)) := by simp [World.cell?, HG3.out]
                    have hgr3 : W3.cell? ⟨g, 3, none⟩ = some (.int .i64 (col : Int)) := by simp [World.cell?, HG3.out]
                    have hw1 : IntKind.i64.wrap (((col : Int) + (m : Int))) = ((col : Int) + (m : Int)) := by rw [IntKind.wrap_i64]; omega
                    have hs3 := HS3.out.size
                    clear HAL HG3
                    go_wp2_with (at_builtin; refine wpW_push rfl _ _ rfl (w.heap.size + 2) (.slice oa acc.length oc) acc (Wd.mk 1 tx.data.toList line col) _ rfl rfl HS3.out.own rfl (by omega) hs3 ?_)
                    intro v' W4 hown' hgw
                    have HS4 : Hid (St w W4 w.heap.size line col v' (acc ++ [Wd.mk 1 tx.data.toList line col])) := (HS3.out.alloc _).grown hgw hown'
                    obtain ⟨va, vc, rfl⟩ := ownW_slice hown'
                    obtain ⟨x0, x1, xf0, xf1, _, _, _, _⟩ := HS4.out.cells
                    have HS5 : Hid (St w (W4.setCell ⟨w.heap.size + 1, 1, none⟩ (.int .i64 ((col : Int) + (m : Int)))) w.heap.size line (col + m) (.slice va (acc ++ [Wd.mk 1 tx.data.toList line col]).length vc) (acc ++ [Wd.mk 1 tx.data.toList line col])) :=
                      HS4.out.setPos 1 (.int .i64 ((col : Int) + (m : Int))) line (col + m) (by simp)
                    clear p0 p1 fz0 fz1 a0 a1 fa0 fa1 hgr0 hgr1 hgr2 hgr3 hown' hgw
                    go_wp2_with fail
                    go_roundw
                    case rel => exact ⟨t.extract N t.size, f, line, col + m, acc ++ [Wd.mk 1 tx.data.toList line col], rfl, by rw [HZn.out]; omega, by rw [HZn.out]; omega, by rw [HZn.out]; omega, by rw [HZn.out]; omega, by simp; omega, HS5.out, by rw [HDn.out]; exact HXW.out⟩
                    case measure => show (t.extract N t.size).size < t.size; rw [HZn.out]; omega
              · by_cases hDg : isDigit (nx t.data.toList).1 = true
                · have hnm : nameRune (nx t.data.toList).1 = true := by unfold nameRune; rw [hDg]; simp
                  have hb47 : ((nx t.data.toList).1 == 47) = false := by
                    rw [beq_eq_false_iff_ne]
                    intro e
                    rw [e] at hDg
                    exact absurd hDg (by decide)
                  have hhw : headW t.data.toList = (2, runL t.data.toList.length t.data.toList) := by unfold headW; rw [if_neg hL, if_pos hDg]
                  rw [hhw] at HLX hhb
                  simp only at HLX hhb
                  rw [HTL.out] at HLX hhb
                  have htk : t.data.toList.take (runL t.size t.data.toList).1 = (t.extract 0 (runL t.size t.data.toList).1).data.toList := (Lib.extract_from_zero t _).symm
                  rw [htk] at HLX
                  have HAL : Hid (ANS = _) := HA.out.trans HLX
                  have hLe := fun W => letterR_any (nx t.data.toList).1 W
                  have hDi := fun W => digitR_any (nx t.data.toList).1 W
                  rw [show isLetter (nx t.data.toList).1 = false by simpa using hL] at hLe
                  rw [hDg] at hDi
                  clear hL hDg
                  have hn0 : (0 : Int) ≤ ((nx t.data.toList).2 : Int) := by omega
                  have hn1 : ((nx t.data.toList).2 : Int) ≤ (t.size : Int) := by omega
                  have HDn : Hid ((t.extract (runL t.size t.data.toList).1 t.size).data.toList = t.data.toList.drop (runL t.size t.data.toList).1) := Lib.extract_to_end t _
                  have HZn : Hid ((t.extract (runL t.size t.data.toList).1 t.size).size = t.size - (runL t.size t.data.toList).1) := by
                    refine (?_ : _ = _)
                    rw [← len_data, HDn.out, List.length_drop, HTL.out]
                  have htxs : 1 ≤ (t.extract 0 (runL t.size t.data.toList).1).size ∧ (t.extract 0 (runL t.size t.data.toList).1).size ≤ 20000 := by
                    rw [← len_data, Lib.extract_from_zero, List.length_take, HTL.out]; omega
                  obtain ⟨RN, hRN⟩ : ∃ RN, runL t.size t.data.toList = RN := ⟨_, rfl⟩
                  have HRN : Hid (runL t.size t.data.toList = RN) := hRN
                  rw [hRN] at HAL HDn HZn htxs hhb
                  obtain ⟨N, m⟩ := RN
                  simp only at HAL HDn HZn htxs hhb
                  clear HLX htk hhw hbg hrm hbl h10 HA hne hnm hRN hway
                  generalize (nx t.data.toList).2 = n at *
                  generalize (nx t.data.toList).1 = r at *
                  go_wp2_with fail
                  refine hNx.mono ?_
                  rintro e w1 ⟨rfl, hb1⟩
                  have HS1 : Hid (St w w1 w.heap.size line col (.slice oa acc.length oc) acc) := HS.out.old hb1
                  obtain ⟨p0, p1, fz0, fz1, _, _, _, _⟩ := HS1.out.cells
                  have hT1 := tabs_below hTr hb1
                  have q0 : ∀ o, (w1.alloc o).cell? ⟨w.heap.size + 1, 0, none⟩ = some (.int .i64 (line : Int)) := fun o => (HS1.out.alloc o).cells.1
                  have q1 : ∀ o, (w1.alloc o).cell? ⟨w.heap.size + 1, 1, none⟩ = some (.int .i64 (col : Int)) := fun o => (HS1.out.alloc o).cells.2.1
                  clear hNx hb1 HS hTr
                  go_wp2_with fail
                  go_region
                  have HS2' : Hid (St w (w1.alloc (.cells #[.int .i64 3, .string (t.extract 0 n), .int .i64 (line : Int), .int .i64 (col : Int)] 114)).drew w.heap.size line col (.slice oa acc.length oc) acc) := (HS1.out.alloc _).drew
                  have hT2' : Tabs (w1.alloc (.cells #[.int .i64 3, .string (t.extract 0 n), .int .i64 (line : Int), .int .i64 (col : Int)] 114)).drew := tabs_below hT1 (((Below.refl _ w1).alloc (Nat.le_refl _) _).drew)
                  have HGC' : Hid ((w1.alloc (.cells #[.int .i64 3, .string (t.extract 0 n), .int .i64 (line : Int), .int .i64 (col : Int)] 114)).drew.heap[w1.heap.size]? = some (.cells #[.int .i64 3, .string (t.extract 0 n), .int .i64 (line : Int), .int .i64 (col : Int)] 114 (0, 0))) := by
                    refine (?_ : _ = _)
                    show (w1.heap.push _)[w1.heap.size]? = _
                    simp
                  have HGO : Hid ((Value.slice oa acc.length oc).ownBlock ≠ some w1.heap.size) := ownW_lt HS1.out.own
                  have hgB : w.heap.size + 2 ≤ w1.heap.size := HS1.out.size
                  clear q0 q1 hT1 p0 p1 fz0 fz1
                  generalize (w1.alloc (.cells #[.int .i64 3, .string (t.extract 0 n), .int .i64 (line : Int), .int .i64 (col : Int)] 114)).drew = W2 at *
                  obtain ⟨g, hg⟩ : ∃ g, w1.heap.size = g := ⟨_, rfl⟩
                  rw [hg] at HGC' HGO hgB ⊢
                  clear hg HS1
                  go_wp2_with fail
                  refine (hLe _).mono ?_
                  rintro e w9 ⟨rfl, h9⟩
                  have h9 := h9.symm
                  subst h9
                  go_wp2_with fail
                  refine (hDi _).mono ?_
                  rintro e w9 ⟨rfl, h9⟩
                  have h9 := h9.symm
                  subst h9
                  clear hLe hDi
                  have hRn := runR_any t W2 hT2' (by omega)
                  rw [HRN.out] at hRn
                  go_wp2_with fail
                  refine hRn.mono ?_
                  rintro e W5 ⟨rfl, hb5⟩
                  have HS5' : Hid (St w W5 w.heap.size line col (.slice oa acc.length oc) acc) := HS2'.out.old hb5
                  have hglt' : g < W2.heap.size := (Array.getElem?_eq_some_iff.1 HGC'.out).1
                  have HG5 : Hid (W5.heap[g]? = some (.cells #[.int .i64 3, .string (t.extract 0 n), .int .i64 (line : Int), .int .i64 (col : Int)] 114 (0, 0))) := by
                    refine (?_ : _ = _)
                    rw [hb5.block g hglt']; exact HGC'.out
                  have hT5 := tabs_below hT2' hb5
                  have y0 : W5.cell? ⟨g, 0, none⟩ = some (.int .i64 3) := by simp [World.cell?, HG5.out]
                  have y1 : W5.cell? ⟨g, 1, none⟩ = some (.string (t.extract 0 n)) := by simp [World.cell?, HG5.out]
                  have yf0 : W5.frozen? ⟨g, 0, none⟩ = false := by simp [World.frozen?, HG5.out]
                  have yf1 : W5.frozen? ⟨g, 1, none⟩ = false := by simp [World.frozen?, HG5.out]
                  clear hRn hb5 hglt' HS2' HGC' hT2'
                  have hN0 : (0 : Int) ≤ (N : Int) := by omega
                  have hNt : (N : Int) ≤ (t.size : Int) := by omega
                  go_wp2_with fail
                  go_region
                  obtain ⟨tx, htx⟩ : ∃ tx, t.extract 0 N = tx := ⟨_, rfl⟩
                  rw [htx] at HAL htxs ⊢
                  have HS2' : Hid (St w ((W5.setCell ⟨g, 0, none⟩ (.int .i64 2)).setCell ⟨g, 1, none⟩ (.string tx)).drew w.heap.size line col (.slice oa acc.length oc) acc) := ((HS5'.out.setFar g 0 _ hgB HGO.out).setFar g 1 _ hgB HGO.out).drew
                  have HGC' : Hid (((W5.setCell ⟨g, 0, none⟩ (.int .i64 2)).setCell ⟨g, 1, none⟩ (.string tx)).drew.heap[g]? = some (.cells #[.int .i64 2, .string tx, .int .i64 (line : Int), .int .i64 (col : Int)] 114 (0, 0))) := by
                    refine (?_ : _ = _)
                    have z1 : (W5.setCell ⟨g, 0, none⟩ (.int .i64 2)).heap[g]? = some (.cells #[.int .i64 2, .string (t.extract 0 n), .int .i64 (line : Int), .int .i64 (col : Int)] 114 (0, 0)) := by
                      rw [setCell_eq_setRow _ _ _ _ _ _ _ HG5.out, setRow_heap W5 g _ _ _ _ HG5.out]; rfl
                    show ((W5.setCell ⟨g, 0, none⟩ (.int .i64 2)).setCell ⟨g, 1, none⟩ (.string tx)).heap[g]? = _
                    rw [setCell_eq_setRow _ _ _ _ _ _ _ z1, setRow_heap _ g _ _ _ _ z1]; rfl
                  have hT2 := tabs_below HT.out HS2'.out.below
                  clear y0 y1 yf0 yf1 hT5 HS5' HG5 htx
                  generalize ((W5.setCell ⟨g, 0, none⟩ (.int .i64 2)).setCell ⟨g, 1, none⟩ (.string tx)).drew = W2 at *
                  have HS2 := HS2'
                  have HGC := HGC'
                  clear HS2' HGC'
                  obtain ⟨htx1, htx2⟩ := htxs
                  obtain ⟨hN1, hN2, hN3, _⟩ := hhb
                  have hgr0 : W2.cell? ⟨g, 0, none⟩ = some (.int .i64 2) := by simp [World.cell?, HGC.out]
                  have hgr1 : W2.cell? ⟨g, 1, none⟩ = some (.string tx) := by simp [World.cell?, HGC.out]
                  have hgr2 : W2.cell? ⟨g, 2, none⟩ = some (.int .i64 (line : Int)) := by simp [World.cell?, HGC.out]
                  have hgr3 : W2.cell? ⟨g, 3, none⟩ = some (.int .i64 (col : Int)) := by simp [World.cell?, HGC.out]
                  have hRt := rightR_any 2 tx (line : Int) (col : Int) r W2 hT2 (by omega) htx1 (by omega)
                  obtain ⟨RT, hRT⟩ : ∃ RT, rightL 2 tx.data.toList r = RT := ⟨_, rfl⟩
                  rw [hRT] at hRt HAL
                  clear hRT hT2
                  have hglt : g < W2.heap.size := (Array.getElem?_eq_some_iff.1 HGC.out).1
                  go_wp2_with fail
                  refine hRt.mono ?_
                  rintro e W3 ⟨rfl, hb3⟩
                  have HS3 : Hid (St w W3 w.heap.size line col (.slice oa acc.length oc) acc) := HS2.out.old hb3
                  have HG3 : Hid (W3.heap[g]? = some (.cells #[.int .i64 2, .string tx, .int .i64 (line : Int), .int .i64 (col : Int)] 114 (0, 0))) := by
                    refine (?_ : _ = _)
                    rw [hb3.block g hglt]; exact HGC.out
                  clear hRt hgr0 hgr1 hgr2 hgr3 hglt hb3 HS2 HGC
                  obtain ⟨p0, p1, fz0, fz1, a0, a1, fa0, fa1⟩ := HS3.out.cells
                  cases RT with
                  | false =>
                    obtain rfl : ANS = ([], (line, col), 6) := by rw [HAL.out, if_pos rfl]
                    obtain ⟨r0, r1, _, hB⟩ := HS3.out.final (.int .i64 (line : Int)) (.int .i64 (col : Int))
                    clear HAL
                    go_wp2_with fail
                    go_region
                    all_goals
                      go_wp2_with fail
                      refine bodyPost_ret (v := .tuple #[.slice none 0 0, .agg #[.int .i64 (line : Int), .int .i64 (col : Int)], .int .i64 6]) (by simp [results, Tryz.results34, go_sem, r0, r1]) rfl ⟨?_, hB.drew⟩
                      unfold WAns
                      rw [if_neg (by show ¬ (6 : Int) = 0; decide)]
                  | true =>
                    by_cases hac4 : acc.length = 4000
                    · obtain rfl : ANS = ([], (line, col), 4) := by rw [HAL.out, if_neg (by decide), if_pos hac4]
                      obtain ⟨r0, r1, _, hB⟩ := HS3.out.final (.int .i64 (line : Int)) (.int .i64 (col : Int))
                      have h4 : ((acc.length : Int) == 4000) = true := by rw [beq_iff_eq]; omega
                      clear HAL hac4
                      go_wp2_with fail
                      go_region
                      all_goals
                        go_wp2_with fail
                        refine bodyPost_ret (v := .tuple #[.slice none 0 0, .agg #[.int .i64 (line : Int), .int .i64 (col : Int)], .int .i64 4]) (by simp [results, Tryz.results34, go_sem, r0, r1]) rfl ⟨?_, hB.drew⟩
                        unfold WAns
                        rw [if_neg (by show ¬ (4 : Int) = 0; decide)]
                    · have h4 : ((acc.length : Int) == 4000) = false := beq_eq_false_iff_ne.2 (by omega)
                      have HXW : Hid (ANS = lexL f (t.data.toList.drop N) line (col + m) (acc ++ [Wd.mk 2 tx.data.toList line col])) := by
                        refine (?_ : _ = _)
                        rw [HAL.out, if_neg (by decide), if_neg hac4]
                      have hgr0 : W3.cell? ⟨g, 0, none⟩ = some (.int .i64 2) := by simp [World.cell?, HG3.out]
                      have hgr1 : W3.cell? ⟨g, 1, none⟩ = some (.string tx) := by simp [World.cell?, HG3.out]
                      have hgr2 : W3.cell? ⟨g, 2, none⟩ = some (.int .i64 (line : Int)) := by simp [World.cell?, HG3.out]
                      have hgr3 : W3.cell? ⟨g, 3, none⟩ = some (.int .i64 (col : Int)) := by simp [World.cell?, HG3.out]
                      have hw1 : IntKind.i64.wrap (((col : Int) + (m : Int))) = ((col : Int) + (m : Int)) := by rw [IntKind.wrap_i64]; omega
                      have hs3 := HS3.out.size
                      clear HAL HG3
                      go_wp2_with (at_builtin; refine wpW_push rfl _ _ rfl (w.heap.size + 2) (.slice oa acc.length oc) acc (Wd.mk 2 tx.data.toList line col) _ rfl rfl HS3.out.own rfl (by omega) hs3 ?_)
                      intro v' W4 hown' hgw
                      have HS4 : Hid (St w W4 w.heap.size line col v' (acc ++ [Wd.mk 2 tx.data.toList line col])) := (HS3.out.alloc _).grown hgw hown'
                      obtain ⟨va, vc, rfl⟩ := ownW_slice hown'
                      obtain ⟨x0, x1, xf0, xf1, _, _, _, _⟩ := HS4.out.cells
                      have HS5 : Hid (St w (W4.setCell ⟨w.heap.size + 1, 1, none⟩ (.int .i64 ((col : Int) + (m : Int)))) w.heap.size line (col + m) (.slice va (acc ++ [Wd.mk 2 tx.data.toList line col]).length vc) (acc ++ [Wd.mk 2 tx.data.toList line col])) :=
                        HS4.out.setPos 1 (.int .i64 ((col : Int) + (m : Int))) line (col + m) (by simp)
                      clear p0 p1 fz0 fz1 a0 a1 fa0 fa1 hgr0 hgr1 hgr2 hgr3 hown' hgw
                      go_wp2_with fail
                      go_roundw
                      case rel => exact ⟨t.extract N t.size, f, line, col + m, acc ++ [Wd.mk 2 tx.data.toList line col], rfl, by rw [HZn.out]; omega, by rw [HZn.out]; omega, by rw [HZn.out]; omega, by rw [HZn.out]; omega, by simp; omega, HS5.out, by rw [HDn.out]; exact HXW.out⟩
                      case measure => show (t.extract N t.size).size < t.size; rw [HZn.out]; omega
                · have hL' : isLetter (nx t.data.toList).1 = false := by simpa using hL
                  have hD' : isDigit (nx t.data.toList).1 = false := by simpa using hDg
                  have hhw : headW t.data.toList = (3, (nx t.data.toList).2, 1) := by
                    unfold headW; rw [if_neg (by rw [hL']; decide), if_neg (by rw [hD']; decide)]
                  rw [hhw] at HLX
                  simp only at HLX
                  have htk : t.data.toList.take (nx t.data.toList).2 = (t.extract 0 (nx t.data.toList).2).data.toList := (Lib.extract_from_zero t _).symm
                  rw [htk] at HLX
                  have HAL : Hid (ANS = _) := HA.out.trans HLX
                  have hLe := fun W => letterR_any (nx t.data.toList).1 W
                  have hDi := fun W => digitR_any (nx t.data.toList).1 W
                  rw [hL'] at hLe
                  rw [hD'] at hDi
                  have hn0 : (0 : Int) ≤ ((nx t.data.toList).2 : Int) := by omega
                  have hn1 : ((nx t.data.toList).2 : Int) ≤ (t.size : Int) := by omega
                  have HDn : Hid ((t.extract (nx t.data.toList).2 t.size).data.toList = t.data.toList.drop (nx t.data.toList).2) := Lib.extract_to_end t _
                  have HZn : Hid ((t.extract (nx t.data.toList).2 t.size).size = t.size - (nx t.data.toList).2) := by
                    refine (?_ : _ = _)
                    rw [← len_data, HDn.out, List.length_drop, HTL.out]
                  have htxs : 1 ≤ (t.extract 0 (nx t.data.toList).2).size ∧ (t.extract 0 (nx t.data.toList).2).size ≤ 20000 := by
                    rw [← len_data, Lib.extract_from_zero, List.length_take, HTL.out]; omega
                  clear HLX htk hhw hL hDg hL' hD' hbg hrm hbl h10 HA hne hhb
                  generalize (nx t.data.toList).2 = n at *
                  generalize (nx t.data.toList).1 = r at *
                  rcases hway with h47 | ⟨rfl, h1t⟩ | ⟨rfl, h1t, hb47⟩
                  · have hb47 : (r == 47) = false := by simpa using h47
                    go_wp2_with fail
                    refine hNx.mono ?_
                    rintro e w1 ⟨rfl, hb1⟩
                    have HS1 : Hid (St w w1 w.heap.size line col (.slice oa acc.length oc) acc) := HS.out.old hb1
                    obtain ⟨p0, p1, fz0, fz1, _, _, _, _⟩ := HS1.out.cells
                    have hT1 := tabs_below hTr hb1
                    have q0 : ∀ o, (w1.alloc o).cell? ⟨w.heap.size + 1, 0, none⟩ = some (.int .i64 (line : Int)) := fun o => (HS1.out.alloc o).cells.1
                    have q1 : ∀ o, (w1.alloc o).cell? ⟨w.heap.size + 1, 1, none⟩ = some (.int .i64 (col : Int)) := fun o => (HS1.out.alloc o).cells.2.1
                    clear hNx hb1 HS hTr
                    go_wp2_with fail
                    go_region
                    have HS2' : Hid (St w (w1.alloc (.cells #[.int .i64 3, .string (t.extract 0 n), .int .i64 (line : Int), .int .i64 (col : Int)] 114)).drew w.heap.size line col (.slice oa acc.length oc) acc) := (HS1.out.alloc _).drew
                    have hT2' : Tabs (w1.alloc (.cells #[.int .i64 3, .string (t.extract 0 n), .int .i64 (line : Int), .int .i64 (col : Int)] 114)).drew := tabs_below hT1 (((Below.refl _ w1).alloc (Nat.le_refl _) _).drew)
                    have HGC' : Hid ((w1.alloc (.cells #[.int .i64 3, .string (t.extract 0 n), .int .i64 (line : Int), .int .i64 (col : Int)] 114)).drew.heap[w1.heap.size]? = some (.cells #[.int .i64 3, .string (t.extract 0 n), .int .i64 (line : Int), .int .i64 (col : Int)] 114 (0, 0))) := by
                      refine (?_ : _ = _)
                      show (w1.heap.push _)[w1.heap.size]? = _
                      simp
                    have HGO : Hid ((Value.slice oa acc.length oc).ownBlock ≠ some w1.heap.size) := ownW_lt HS1.out.own
                    have hgB : w.heap.size + 2 ≤ w1.heap.size := HS1.out.size
                    clear q0 q1 hT1 p0 p1 fz0 fz1
                    generalize (w1.alloc (.cells #[.int .i64 3, .string (t.extract 0 n), .int .i64 (line : Int), .int .i64 (col : Int)] 114)).drew = W2 at *
                    obtain ⟨g, hg⟩ : ∃ g, w1.heap.size = g := ⟨_, rfl⟩
                    rw [hg] at HGC' HGO hgB ⊢
                    clear hg HS1
                    obtain ⟨tx, htx⟩ : ∃ tx, t.extract 0 n = tx := ⟨_, rfl⟩
                    rw [htx] at HGC' HAL htxs
                    have HS2 := HS2'
                    have HGC := HGC'
                    have hT2 := hT2'
                    clear HS2' HGC' hT2' htx
                    obtain ⟨htx1, htx2⟩ := htxs
                    go_wp2_with fail
                    refine (hLe _).mono ?_
                    rintro e w9 ⟨rfl, h9⟩
                    have h9 := h9.symm
                    subst h9
                    go_wp2_with fail
                    refine (hDi _).mono ?_
                    rintro e w9 ⟨rfl, h9⟩
                    have h9 := h9.symm
                    subst h9
                    clear hLe hDi
                    have hgr0 : W2.cell? ⟨g, 0, none⟩ = some (.int .i64 3) := by simp [World.cell?, HGC.out]
                    have hgr1 : W2.cell? ⟨g, 1, none⟩ = some (.string tx) := by simp [World.cell?, HGC.out]
                    have hgr2 : W2.cell? ⟨g, 2, none⟩ = some (.int .i64 (line : Int)) := by simp [World.cell?, HGC.out]
                    have hgr3 : W2.cell? ⟨g, 3, none⟩ = some (.int .i64 (col : Int)) := by simp [World.cell?, HGC.out]
                    have hRt := rightR_any 3 tx (line : Int) (col : Int) r W2 hT2 (by omega) htx1 (by omega)
                    obtain ⟨RT, hRT⟩ : ∃ RT, rightL 3 tx.data.toList r = RT := ⟨_, rfl⟩
                    rw [hRT] at hRt HAL
                    clear hRT hT2
                    have hglt : g < W2.heap.size := (Array.getElem?_eq_some_iff.1 HGC.out).1
                    go_wp2_with fail
                    refine hRt.mono ?_
                    rintro e W3 ⟨rfl, hb3⟩
                    have HS3 : Hid (St w W3 w.heap.size line col (.slice oa acc.length oc) acc) := HS2.out.old hb3
                    have HG3 : Hid (W3.heap[g]? = some (.cells #[.int .i64 3, .string tx, .int .i64 (line : Int), .int .i64 (col : Int)] 114 (0, 0))) := by
                      refine (?_ : _ = _)
                      rw [hb3.block g hglt]; exact HGC.out
                    clear hRt hgr0 hgr1 hgr2 hgr3 hglt hb3 HS2 HGC
                    obtain ⟨p0, p1, fz0, fz1, a0, a1, fa0, fa1⟩ := HS3.out.cells
                    cases RT with
                    | false =>
                      obtain rfl : ANS = ([], (line, col), 6) := by rw [HAL.out, if_pos rfl]
                      obtain ⟨r0, r1, _, hB⟩ := HS3.out.final (.int .i64 (line : Int)) (.int .i64 (col : Int))
                      clear HAL
                      go_wp2_with fail
                      go_region
                      all_goals
                        go_wp2_with fail
                        refine bodyPost_ret (v := .tuple #[.slice none 0 0, .agg #[.int .i64 (line : Int), .int .i64 (col : Int)], .int .i64 6]) (by simp [results, Tryz.results34, go_sem, r0, r1]) rfl ⟨?_, hB.drew⟩
                        unfold WAns
                        rw [if_neg (by show ¬ (6 : Int) = 0; decide)]
                    | true =>
                      by_cases hac4 : acc.length = 4000
                      · obtain rfl : ANS = ([], (line, col), 4) := by rw [HAL.out, if_neg (by decide), if_pos hac4]
                        obtain ⟨r0, r1, _, hB⟩ := HS3.out.final (.int .i64 (line : Int)) (.int .i64 (col : Int))
                        have h4 : ((acc.length : Int) == 4000) = true := by rw [beq_iff_eq]; omega
                        clear HAL hac4
                        go_wp2_with fail
                        go_region
                        all_goals
                          go_wp2_with fail
                          refine bodyPost_ret (v := .tuple #[.slice none 0 0, .agg #[.int .i64 (line : Int), .int .i64 (col : Int)], .int .i64 4]) (by simp [results, Tryz.results34, go_sem, r0, r1]) rfl ⟨?_, hB.drew⟩
                          unfold WAns
                          rw [if_neg (by show ¬ (4 : Int) = 0; decide)]
                      · have h4 : ((acc.length : Int) == 4000) = false := beq_eq_false_iff_ne.2 (by omega)
                        have HXW : Hid (ANS = lexL f (t.data.toList.drop n) line (col + 1) (acc ++ [Wd.mk 3 tx.data.toList line col])) := by
                          refine (?_ : _ = _)
                          rw [HAL.out, if_neg (by decide), if_neg hac4]
                        have hgr0 : W3.cell? ⟨g, 0, none⟩ = some (.int .i64 3) := by simp [World.cell?, HG3.out]
                        have hgr1 : W3.cell? ⟨g, 1, none⟩ = some (.string tx) := by simp [World.cell?, HG3.out]
                        have hgr2 : W3.cell? ⟨g, 2, none⟩ = some (.int .i64 (line : Int)) := by simp [World.cell?, HG3.out]
                        have hgr3 : W3.cell? ⟨g, 3, none⟩ = some (.int .i64 (col : Int)) := by simp [World.cell?, HG3.out]
                        have hw1 : IntKind.i64.wrap (((col : Int) + 1)) = ((col : Int) + 1) := by rw [IntKind.wrap_i64]; omega
                        have hs3 := HS3.out.size
                        clear HAL HG3
                        go_wp2_with (at_builtin; refine wpW_push rfl _ _ rfl (w.heap.size + 2) (.slice oa acc.length oc) acc (Wd.mk 3 tx.data.toList line col) _ rfl rfl HS3.out.own rfl (by omega) hs3 ?_)
                        intro v' W4 hown' hgw
                        have HS4 : Hid (St w W4 w.heap.size line col v' (acc ++ [Wd.mk 3 tx.data.toList line col])) := (HS3.out.alloc _).grown hgw hown'
                        obtain ⟨va, vc, rfl⟩ := ownW_slice hown'
                        obtain ⟨x0, x1, xf0, xf1, _, _, _, _⟩ := HS4.out.cells
                        have HS5 : Hid (St w (W4.setCell ⟨w.heap.size + 1, 1, none⟩ (.int .i64 ((col : Int) + 1))) w.heap.size line (col + 1) (.slice va (acc ++ [Wd.mk 3 tx.data.toList line col]).length vc) (acc ++ [Wd.mk 3 tx.data.toList line col])) :=
                          HS4.out.setPos 1 (.int .i64 ((col : Int) + 1)) line (col + 1) (by simp)
                        clear p0 p1 fz0 fz1 a0 a1 fa0 fa1 hgr0 hgr1 hgr2 hgr3 hown' hgw
                        go_wp2_with fail
                        go_roundw
                        case rel => exact ⟨t.extract n t.size, f, line, col + 1, acc ++ [Wd.mk 3 tx.data.toList line col], rfl, by rw [HZn.out]; omega, by rw [HZn.out]; omega, by rw [HZn.out]; omega, by rw [HZn.out]; omega, by simp; omega, HS5.out, by rw [HDn.out]; exact HXW.out⟩
                        case measure => show (t.extract n t.size).size < t.size; rw [HZn.out]; omega
                  · have hb47 : True := trivial
                    go_wp2_with fail
                    refine hNx.mono ?_
                    rintro e w1 ⟨rfl, hb1⟩
                    have HS1 : Hid (St w w1 w.heap.size line col (.slice oa acc.length oc) acc) := HS.out.old hb1
                    obtain ⟨p0, p1, fz0, fz1, _, _, _, _⟩ := HS1.out.cells
                    have hT1 := tabs_below hTr hb1
                    have q0 : ∀ o, (w1.alloc o).cell? ⟨w.heap.size + 1, 0, none⟩ = some (.int .i64 (line : Int)) := fun o => (HS1.out.alloc o).cells.1
                    have q1 : ∀ o, (w1.alloc o).cell? ⟨w.heap.size + 1, 1, none⟩ = some (.int .i64 (col : Int)) := fun o => (HS1.out.alloc o).cells.2.1
                    clear hNx hb1 HS hTr
                    go_wp2_with fail
                    go_region
                    have HS2' : Hid (St w (w1.alloc (.cells #[.int .i64 3, .string (t.extract 0 n), .int .i64 (line : Int), .int .i64 (col : Int)] 114)).drew w.heap.size line col (.slice oa acc.length oc) acc) := (HS1.out.alloc _).drew
                    have hT2' : Tabs (w1.alloc (.cells #[.int .i64 3, .string (t.extract 0 n), .int .i64 (line : Int), .int .i64 (col : Int)] 114)).drew := tabs_below hT1 (((Below.refl _ w1).alloc (Nat.le_refl _) _).drew)
                    have HGC' : Hid ((w1.alloc (.cells #[.int .i64 3, .string (t.extract 0 n), .int .i64 (line : Int), .int .i64 (col : Int)] 114)).drew.heap[w1.heap.size]? = some (.cells #[.int .i64 3, .string (t.extract 0 n), .int .i64 (line : Int), .int .i64 (col : Int)] 114 (0, 0))) := by
                      refine (?_ : _ = _)
                      show (w1.heap.push _)[w1.heap.size]? = _
                      simp
                    have HGO : Hid ((Value.slice oa acc.length oc).ownBlock ≠ some w1.heap.size) := ownW_lt HS1.out.own
                    have hgB : w.heap.size + 2 ≤ w1.heap.size := HS1.out.size
                    clear q0 q1 hT1 p0 p1 fz0 fz1
                    generalize (w1.alloc (.cells #[.int .i64 3, .string (t.extract 0 n), .int .i64 (line : Int), .int .i64 (col : Int)] 114)).drew = W2 at *
                    obtain ⟨g, hg⟩ : ∃ g, w1.heap.size = g := ⟨_, rfl⟩
                    rw [hg] at HGC' HGO hgB ⊢
                    clear hg HS1
                    obtain ⟨tx, htx⟩ : ∃ tx, t.extract 0 n = tx := ⟨_, rfl⟩
                    rw [htx] at HGC' HAL htxs
                    have HS2 := HS2'
                    have HGC := HGC'
                    have hT2 := hT2'
                    clear HS2' HGC' hT2' htx
                    obtain ⟨htx1, htx2⟩ := htxs
                    go_wp2_with fail
                    refine (hLe _).mono ?_
                    rintro e w9 ⟨rfl, h9⟩
                    have h9 := h9.symm
                    subst h9
                    go_wp2_with fail
                    refine (hDi _).mono ?_
                    rintro e w9 ⟨rfl, h9⟩
                    have h9 := h9.symm
                    subst h9
                    clear hLe hDi
                    have hgr0 : W2.cell? ⟨g, 0, none⟩ = some (.int .i64 3) := by simp [World.cell?, HGC.out]
                    have hgr1 : W2.cell? ⟨g, 1, none⟩ = some (.string tx) := by simp [World.cell?, HGC.out]
                    have hgr2 : W2.cell? ⟨g, 2, none⟩ = some (.int .i64 (line : Int)) := by simp [World.cell?, HGC.out]
                    have hgr3 : W2.cell? ⟨g, 3, none⟩ = some (.int .i64 (col : Int)) := by simp [World.cell?, HGC.out]
                    have hRt := rightR_any 3 tx (line : Int) (col : Int) 47 W2 hT2 (by omega) htx1 (by omega)
                    obtain ⟨RT, hRT⟩ : ∃ RT, rightL 3 tx.data.toList 47 = RT := ⟨_, rfl⟩
                    rw [hRT] at hRt HAL
                    clear hRT hT2
                    have hglt : g < W2.heap.size := (Array.getElem?_eq_some_iff.1 HGC.out).1
                    go_wp2_with fail
                    refine hRt.mono ?_
                    rintro e W3 ⟨rfl, hb3⟩
                    have HS3 : Hid (St w W3 w.heap.size line col (.slice oa acc.length oc) acc) := HS2.out.old hb3
                    have HG3 : Hid (W3.heap[g]? = some (.cells #[.int .i64 3, .string tx, .int .i64 (line : Int), .int .i64 (col : Int)] 114 (0, 0))) := by
                      refine (?_ : _ = _)
                      rw [hb3.block g hglt]; exact HGC.out
                    clear hRt hgr0 hgr1 hgr2 hgr3 hglt hb3 HS2 HGC
                    obtain ⟨p0, p1, fz0, fz1, a0, a1, fa0, fa1⟩ := HS3.out.cells
                    cases RT with
                    | false =>
                      obtain rfl : ANS = ([], (line, col), 6) := by rw [HAL.out, if_pos rfl]
                      obtain ⟨r0, r1, _, hB⟩ := HS3.out.final (.int .i64 (line : Int)) (.int .i64 (col : Int))
                      clear HAL
                      go_wp2_with fail
                      go_region
                      all_goals
                        go_wp2_with fail
                        refine bodyPost_ret (v := .tuple #[.slice none 0 0, .agg #[.int .i64 (line : Int), .int .i64 (col : Int)], .int .i64 6]) (by simp [results, Tryz.results34, go_sem, r0, r1]) rfl ⟨?_, hB.drew⟩
                        unfold WAns
                        rw [if_neg (by show ¬ (6 : Int) = 0; decide)]
                    | true =>
                      by_cases hac4 : acc.length = 4000
                      · obtain rfl : ANS = ([], (line, col), 4) := by rw [HAL.out, if_neg (by decide), if_pos hac4]
                        obtain ⟨r0, r1, _, hB⟩ := HS3.out.final (.int .i64 (line : Int)) (.int .i64 (col : Int))
                        have h4 : ((acc.length : Int) == 4000) = true := by rw [beq_iff_eq]; omega
                        clear HAL hac4
                        go_wp2_with fail
                        go_region
                        all_goals
                          go_wp2_with fail
                          refine bodyPost_ret (v := .tuple #[.slice none 0 0, .agg #[.int .i64 (line : Int), .int .i64 (col : Int)], .int .i64 4]) (by simp [results, Tryz.results34, go_sem, r0, r1]) rfl ⟨?_, hB.drew⟩
                          unfold WAns
                          rw [if_neg (by show ¬ (4 : Int) = 0; decide)]
                      · have h4 : ((acc.length : Int) == 4000) = false := beq_eq_false_iff_ne.2 (by omega)
                        have HXW : Hid (ANS = lexL f (t.data.toList.drop n) line (col + 1) (acc ++ [Wd.mk 3 tx.data.toList line col])) := by
                          refine (?_ : _ = _)
                          rw [HAL.out, if_neg (by decide), if_neg hac4]
                        have hgr0 : W3.cell? ⟨g, 0, none⟩ = some (.int .i64 3) := by simp [World.cell?, HG3.out]
                        have hgr1 : W3.cell? ⟨g, 1, none⟩ = some (.string tx) := by simp [World.cell?, HG3.out]
                        have hgr2 : W3.cell? ⟨g, 2, none⟩ = some (.int .i64 (line : Int)) := by simp [World.cell?, HG3.out]
                        have hgr3 : W3.cell? ⟨g, 3, none⟩ = some (.int .i64 (col : Int)) := by simp [World.cell?, HG3.out]
                        have hw1 : IntKind.i64.wrap (((col : Int) + 1)) = ((col : Int) + 1) := by rw [IntKind.wrap_i64]; omega
                        have hs3 := HS3.out.size
                        clear HAL HG3
                        go_wp2_with (at_builtin; refine wpW_push rfl _ _ rfl (w.heap.size + 2) (.slice oa acc.length oc) acc (Wd.mk 3 tx.data.toList line col) _ rfl rfl HS3.out.own rfl (by omega) hs3 ?_)
                        intro v' W4 hown' hgw
                        have HS4 : Hid (St w W4 w.heap.size line col v' (acc ++ [Wd.mk 3 tx.data.toList line col])) := (HS3.out.alloc _).grown hgw hown'
                        obtain ⟨va, vc, rfl⟩ := ownW_slice hown'
                        obtain ⟨x0, x1, xf0, xf1, _, _, _, _⟩ := HS4.out.cells
                        have HS5 : Hid (St w (W4.setCell ⟨w.heap.size + 1, 1, none⟩ (.int .i64 ((col : Int) + 1))) w.heap.size line (col + 1) (.slice va (acc ++ [Wd.mk 3 tx.data.toList line col]).length vc) (acc ++ [Wd.mk 3 tx.data.toList line col])) :=
                          HS4.out.setPos 1 (.int .i64 ((col : Int) + 1)) line (col + 1) (by simp)
                        clear p0 p1 fz0 fz1 a0 a1 fa0 fa1 hgr0 hgr1 hgr2 hgr3 hown' hgw
                        go_wp2_with fail
                        go_roundw
                        case rel => exact ⟨t.extract n t.size, f, line, col + 1, acc ++ [Wd.mk 3 tx.data.toList line col], rfl, by rw [HZn.out]; omega, by rw [HZn.out]; omega, by rw [HZn.out]; omega, by rw [HZn.out]; omega, by simp; omega, HS5.out, by rw [HDn.out]; exact HXW.out⟩
                        case measure => show (t.extract n t.size).size < t.size; rw [HZn.out]; omega
                  · have hb48 : True := trivial
                    go_wp2_with fail
                    refine hNx.mono ?_
                    rintro e w1 ⟨rfl, hb1⟩
                    have HS1 : Hid (St w w1 w.heap.size line col (.slice oa acc.length oc) acc) := HS.out.old hb1
                    obtain ⟨p0, p1, fz0, fz1, _, _, _, _⟩ := HS1.out.cells
                    have hT1 := tabs_below hTr hb1
                    have q0 : ∀ o, (w1.alloc o).cell? ⟨w.heap.size + 1, 0, none⟩ = some (.int .i64 (line : Int)) := fun o => (HS1.out.alloc o).cells.1
                    have q1 : ∀ o, (w1.alloc o).cell? ⟨w.heap.size + 1, 1, none⟩ = some (.int .i64 (col : Int)) := fun o => (HS1.out.alloc o).cells.2.1
                    clear hNx hb1 HS hTr
                    go_wp2_with fail
                    go_region
                    have HS2' : Hid (St w (w1.alloc (.cells #[.int .i64 3, .string (t.extract 0 n), .int .i64 (line : Int), .int .i64 (col : Int)] 114)).drew w.heap.size line col (.slice oa acc.length oc) acc) := (HS1.out.alloc _).drew
                    have hT2' : Tabs (w1.alloc (.cells #[.int .i64 3, .string (t.extract 0 n), .int .i64 (line : Int), .int .i64 (col : Int)] 114)).drew := tabs_below hT1 (((Below.refl _ w1).alloc (Nat.le_refl _) _).drew)
                    have HGC' : Hid ((w1.alloc (.cells #[.int .i64 3, .string (t.extract 0 n), .int .i64 (line : Int), .int .i64 (col : Int)] 114)).drew.heap[w1.heap.size]? = some (.cells #[.int .i64 3, .string (t.extract 0 n), .int .i64 (line : Int), .int .i64 (col : Int)] 114 (0, 0))) := by
                      refine (?_ : _ = _)
                      show (w1.heap.push _)[w1.heap.size]? = _
                      simp
                    have HGO : Hid ((Value.slice oa acc.length oc).ownBlock ≠ some w1.heap.size) := ownW_lt HS1.out.own
                    have hgB : w.heap.size + 2 ≤ w1.heap.size := HS1.out.size
                    clear q0 q1 hT1 p0 p1 fz0 fz1
                    generalize (w1.alloc (.cells #[.int .i64 3, .string (t.extract 0 n), .int .i64 (line : Int), .int .i64 (col : Int)] 114)).drew = W2 at *
                    obtain ⟨g, hg⟩ : ∃ g, w1.heap.size = g := ⟨_, rfl⟩
                    rw [hg] at HGC' HGO hgB ⊢
                    clear hg HS1
                    obtain ⟨tx, htx⟩ : ∃ tx, t.extract 0 n = tx := ⟨_, rfl⟩
                    rw [htx] at HGC' HAL htxs
                    have HS2 := HS2'
                    have HGC := HGC'
                    have hT2 := hT2'
                    clear HS2' HGC' hT2' htx
                    obtain ⟨htx1, htx2⟩ := htxs
                    go_wp2_with fail
                    refine (hLe _).mono ?_
                    rintro e w9 ⟨rfl, h9⟩
                    have h9 := h9.symm
                    subst h9
                    go_wp2_with fail
                    refine (hDi _).mono ?_
                    rintro e w9 ⟨rfl, h9⟩
                    have h9 := h9.symm
                    subst h9
                    clear hLe hDi
                    have hgr0 : W2.cell? ⟨g, 0, none⟩ = some (.int .i64 3) := by simp [World.cell?, HGC.out]
                    have hgr1 : W2.cell? ⟨g, 1, none⟩ = some (.string tx) := by simp [World.cell?, HGC.out]
                    have hgr2 : W2.cell? ⟨g, 2, none⟩ = some (.int .i64 (line : Int)) := by simp [World.cell?, HGC.out]
                    have hgr3 : W2.cell? ⟨g, 3, none⟩ = some (.int .i64 (col : Int)) := by simp [World.cell?, HGC.out]
                    have hRt := rightR_any 3 tx (line : Int) (col : Int) 47 W2 hT2 (by omega) htx1 (by omega)
                    obtain ⟨RT, hRT⟩ : ∃ RT, rightL 3 tx.data.toList 47 = RT := ⟨_, rfl⟩
                    rw [hRT] at hRt HAL
                    clear hRT hT2
                    have hglt : g < W2.heap.size := (Array.getElem?_eq_some_iff.1 HGC.out).1
                    go_wp2_with fail
                    refine hRt.mono ?_
                    rintro e W3 ⟨rfl, hb3⟩
                    have HS3 : Hid (St w W3 w.heap.size line col (.slice oa acc.length oc) acc) := HS2.out.old hb3
                    have HG3 : Hid (W3.heap[g]? = some (.cells #[.int .i64 3, .string tx, .int .i64 (line : Int), .int .i64 (col : Int)] 114 (0, 0))) := by
                      refine (?_ : _ = _)
                      rw [hb3.block g hglt]; exact HGC.out
                    clear hRt hgr0 hgr1 hgr2 hgr3 hglt hb3 HS2 HGC
                    obtain ⟨p0, p1, fz0, fz1, a0, a1, fa0, fa1⟩ := HS3.out.cells
                    cases RT with
                    | false =>
                      obtain rfl : ANS = ([], (line, col), 6) := by rw [HAL.out, if_pos rfl]
                      obtain ⟨r0, r1, _, hB⟩ := HS3.out.final (.int .i64 (line : Int)) (.int .i64 (col : Int))
                      clear HAL
                      go_wp2_with fail
                      go_region
                      all_goals
                        go_wp2_with fail
                        refine bodyPost_ret (v := .tuple #[.slice none 0 0, .agg #[.int .i64 (line : Int), .int .i64 (col : Int)], .int .i64 6]) (by simp [results, Tryz.results34, go_sem, r0, r1]) rfl ⟨?_, hB.drew⟩
                        unfold WAns
                        rw [if_neg (by show ¬ (6 : Int) = 0; decide)]
                    | true =>
                      by_cases hac4 : acc.length = 4000
                      · obtain rfl : ANS = ([], (line, col), 4) := by rw [HAL.out, if_neg (by decide), if_pos hac4]
                        obtain ⟨r0, r1, _, hB⟩ := HS3.out.final (.int .i64 (line : Int)) (.int .i64 (col : Int))
                        have h4 : ((acc.length : Int) == 4000) = true := by rw [beq_iff_eq]; omega
                        clear HAL hac4
                        go_wp2_with fail
                        go_region
                        all_goals
                          go_wp2_with fail
                          refine bodyPost_ret (v := .tuple #[.slice none 0 0, .agg #[.int .i64 (line : Int), .int .i64 (col : Int)], .int .i64 4]) (by simp [results, Tryz.results34, go_sem, r0, r1]) rfl ⟨?_, hB.drew⟩
                          unfold WAns
                          rw [if_neg (by show ¬ (4 : Int) = 0; decide)]
                      · have h4 : ((acc.length : Int) == 4000) = false := beq_eq_false_iff_ne.2 (by omega)
                        have HXW : Hid (ANS = lexL f (t.data.toList.drop n) line (col + 1) (acc ++ [Wd.mk 3 tx.data.toList line col])) := by
                          refine (?_ : _ = _)
                          rw [HAL.out, if_neg (by decide), if_neg hac4]
                        have hgr0 : W3.cell? ⟨g, 0, none⟩ = some (.int .i64 3) := by simp [World.cell?, HG3.out]
                        have hgr1 : W3.cell? ⟨g, 1, none⟩ = some (.string tx) := by simp [World.cell?, HG3.out]
                        have hgr2 : W3.cell? ⟨g, 2, none⟩ = some (.int .i64 (line : Int)) := by simp [World.cell?, HG3.out]
                        have hgr3 : W3.cell? ⟨g, 3, none⟩ = some (.int .i64 (col : Int)) := by simp [World.cell?, HG3.out]
                        have hw1 : IntKind.i64.wrap (((col : Int) + 1)) = ((col : Int) + 1) := by rw [IntKind.wrap_i64]; omega
                        have hs3 := HS3.out.size
                        clear HAL HG3
                        go_wp2_with (at_builtin; refine wpW_push rfl _ _ rfl (w.heap.size + 2) (.slice oa acc.length oc) acc (Wd.mk 3 tx.data.toList line col) _ rfl rfl HS3.out.own rfl (by omega) hs3 ?_)
                        intro v' W4 hown' hgw
                        have HS4 : Hid (St w W4 w.heap.size line col v' (acc ++ [Wd.mk 3 tx.data.toList line col])) := (HS3.out.alloc _).grown hgw hown'
                        obtain ⟨va, vc, rfl⟩ := ownW_slice hown'
                        obtain ⟨x0, x1, xf0, xf1, _, _, _, _⟩ := HS4.out.cells
                        have HS5 : Hid (St w (W4.setCell ⟨w.heap.size + 1, 1, none⟩ (.int .i64 ((col : Int) + 1))) w.heap.size line (col + 1) (.slice va (acc ++ [Wd.mk 3 tx.data.toList line col]).length vc) (acc ++ [Wd.mk 3 tx.data.toList line col])) :=
                          HS4.out.setPos 1 (.int .i64 ((col : Int) + 1)) line (col + 1) (by simp)
                        clear p0 p1 fz0 fz1 a0 a1 fa0 fa1 hgr0 hgr1 hgr2 hgr3 hown' hgw
                        go_wp2_with fail
                        go_roundw
                        case rel => exact ⟨t.extract n t.size, f, line, col + 1, acc ++ [Wd.mk 3 tx.data.toList line col], rfl, by rw [HZn.out]; omega, by rw [HZn.out]; omega, by rw [HZn.out]; omega, by rw [HZn.out]; omega, by simp; omega, HS5.out, by rw [HDn.out]; exact HXW.out⟩
                        case measure => show (t.extract n t.size).size < t.size; rw [HZn.out]; omega
  · have h2' : (20000 : Int) < (s.size : Int) := by omega
    have HW : Hid (wordsL s.data.toList = ([], (1, 1), 4)) := by
      refine (?_ : _ = _)
      unfold wordsL; rw [if_pos (by rw [len_data]; omega)]
    clear hT
    go_enter Tryz.func34, Tryz.ntmps34
    go_wp2_with fail
    refine bodyPost_ret (v := .tuple #[.slice none 0 0, .agg #[.int .i64 1, .int .i64 1], .int .i64 4]) (by simp [results, Tryz.results34, go_sem]) rfl ⟨?_, (Below.refl _ w).alloc (Nat.le_refl _) _⟩
    rw [HW.out]
    unfold WAns
    rw [if_neg (by decide)]
    rfl
end Go.Proofs.YtngmimbpakmkiaaGreatDoor
