/-
  The walk over the program's own written: rows are written as their text.
-/
import Derived.Test.YtkhnicppcbgdiaaGreatDoorM14
namespace Go.Proofs.YtkhnicppcbgdiaaGreatDoor
set_option linter.unusedVariables false
open Go.ChangeShapes Go.WideShapes Go.ChangeAt Go.RowKit

theorem flatT_app (a b : List (List UInt8)) : flatT (a ++ b) = flatT a ++ flatT b := by unfold flatT; rw [List.flatMap_append]
def tailT (xs : List Rw) : List UInt8 := flatT ([wDisp, wSwitch] ++ caseL xs ++ [wE1, wE2, wE3])
theorem text_parts (xs : List Rw) : textT (some []) xs = flatT [wPack, []] ++ (flatT (headL (some []) xs) ++ tailT xs) := by
  unfold textT linesT tailT
  simp only [flatT_app, List.append_assoc]
theorem tail_parts (xs : List Rw) : tailT xs = flatT [wDisp, wSwitch] ++ (flatT (caseL xs) ++ flatT [wE1, wE2, wE3]) := by
  unfold tailT
  simp only [flatT_app, List.append_assoc]
theorem head_step (s : List UInt8) (r : Rw) (t : List Rw) : flatT (headL (some s) (r :: t)) = (if s = r.sv then [] else flatT [tyL r.sv, []]) ++ (flatT [mlL r, []] ++ flatT (headL (some r.sv) t)) := by
  rw [headL]
  by_cases h : s = r.sv
  · rw [if_pos (by rw [h]), if_pos h]
    simp only [flatT_app]
    rfl
  · rw [if_neg (by simpa using h), if_neg h]
    simp only [flatT_app]
theorem case_step (r : Rw) (t : List Rw) : flatT (caseL (r :: t)) = flatT [c1L r] ++ (flatT [c2L r] ++ flatT (caseL t)) := by
  unfold caseL
  rw [List.flatMap_cons, flatT_app, show [c1L r, c2L r] = [c1L r] ++ [c2L r] from rfl, flatT_app, List.append_assoc]
theorem ml_len (r : Rw) (h : FitRw r) : (mlL r).length ≤ 5000200 := by
  obtain ⟨⟨f0, f0b⟩, f1, f2, f3, f4⟩ := h
  have := Lib.itoa_length_le r.id f0 f0b
  unfold mlL
  simp only [List.length_append, show wFunc.length = 8 from rfl, show wClient.length = 8 from rfl, show wIn.length = 4 from rfl, show wMid.length = 3 from rfl, show wStat.length = 9 from rfl, show wCall.length = 15 from rfl, show wCaller.length = 12 from rfl, show wEnd.length = 7 from rfl]
  omega
theorem ty_len (r : Rw) (h : FitRw r) : (tyL r.sv).length ≤ 1000100 := by
  obtain ⟨_, f1, f2, f3, f4⟩ := h
  unfold tyL
  simp only [List.length_append, show wType.length = 5 from rfl, show wStruct.length = 23 from rfl]
  omega
theorem c1_len (r : Rw) (h : FitRw r) : (c1L r).length ≤ 100 := by
  obtain ⟨⟨f0, f0b⟩, _⟩ := h
  have := Lib.itoa_length_le r.id f0 f0b
  unfold c1L
  simp only [List.length_append, show wCase.length = 6 from rfl, show wColon.length = 1 from rfl]
  omega
theorem c2_len (r : Rw) (h : FitRw r) : (c2L r).length ≤ 3000100 := by
  obtain ⟨_, f1, f2, f3, f4⟩ := h
  unfold c2L
  simp only [List.length_append, show wRet.length = 11 from rfl, show wUnder.length = 1 from rfl, show wInDot.length = 5 from rfl, show wClose.length = 2 from rfl]
  omega
theorem flat_one (a : List UInt8) : (flatT [a]).length = a.length + 1 := by unfold flatT; simp
theorem flat_two (a : List UInt8) : (flatT [a, []]).length = a.length + 2 := by unfold flatT; simp
theorem head_len : ∀ (l : List Rw) (s : List UInt8), (∀ r ∈ l, FitRw r) → (flatT (headL (some s) l)).length ≤ 7000000 * l.length
  | [], s, _ => by unfold headL flatT; simp
  | r :: t, s, h => by
    have ih := head_len t r.sv fun x hx => h x (List.mem_cons_of_mem _ hx)
    have h1 := ml_len r (h r List.mem_cons_self)
    have h2 := ty_len r (h r List.mem_cons_self)
    rw [head_step, List.length_append, List.length_append, flat_two, List.length_cons]
    have : (if s = r.sv then [] else flatT [tyL r.sv, []]).length ≤ 1000102 := by
      split
      · simp
      · rw [flat_two]; omega
    omega
theorem case_len : ∀ (l : List Rw), (∀ r ∈ l, FitRw r) → (flatT (caseL l)).length ≤ 7000000 * l.length
  | [], _ => by unfold caseL flatT; simp
  | r :: t, h => by
    have ih := case_len t fun x hx => h x (List.mem_cons_of_mem _ hx)
    have h1 := c1_len r (h r List.mem_cons_self)
    have h2 := c2_len r (h r List.mem_cons_self)
    rw [case_step, List.length_append, List.length_append, flat_one, flat_one, List.length_cons]
    omega
theorem text_len (l : List Rw) (h : ∀ r ∈ l, FitRw r) : (textT (some []) l).length ≤ 14000000 * l.length + 1000 := by
  have h1 := head_len l [] h
  have h2 := case_len l h
  rw [text_parts, tail_parts]
  simp only [List.length_append, show (flatT [wPack, []]).length = 15 from rfl, show (flatT [wDisp, wSwitch]).length = 71  from rfl, show (flatT [wE1, wE2, wE3]).length = 32 from rfl]
  omega
theorem wr_ltS {B b : Nat} {l : List UInt8} {w : World} (h : Lib.IsBuilderF 78 5 B b (Lib.byteCells l) w) : b < w.heap.size := by
  rcases h with h | h
  · exact h.lt
  · exact h.lt
theorem rw_cells {w : World} {S : Nat → Prop} {v : Value} {xs : List Rw} (h : RowsIn w S 5 rrow v xs) {q : Nat} {r : Rw} (hx : xs[q]? = some r) :
    ∃ g o c, v = .slice (some ⟨g, o, none⟩) xs.length c ∧ S g ∧ ∀ W : World, W.heap[g]? = w.heap[g]? → W.cell? ⟨g, o + q * 5, none⟩ = some (.int .i64 r.id) ∧ W.cell? ⟨g, o + q * 5 + 1, none⟩ = some (.string (mkB r.sv)) ∧ W.cell? ⟨g, o + q * 5 + 2, none⟩ = some (.string (mkB r.mt)) ∧ W.cell? ⟨g, o + q * 5 + 3, none⟩ = some (.string (mkB r.inn)) ∧ W.cell? ⟨g, o + q * 5 + 4, none⟩ = some (.string (mkB r.out)) := by
  obtain ⟨ad, c, hv, hc, h0 | ⟨g, o, rfl, hg, hr⟩⟩ := h
  · subst h0; simp at hx
  · refine ⟨g, o, c, hv, hg, fun W hW => ?_⟩
    have key : ∀ i u, (rrow r)[i]? = some u → W.cell? ⟨g, o + q * 5 + i, none⟩ = some u := by
      intro i u hu
      rw [World.cell?_of_block hW]
      have := hr q r hx i u hu
      rw [Nat.add_assoc]; exact this
    exact ⟨key 0 _ rfl, key 1 _ rfl, key 2 _ rfl, key 3 _ rfl, key 4 _ rfl⟩
theorem k_pack : (⟨#[112, 97, 99, 107, 97, 103, 101, 32, 115, 116, 117, 98, 115, 10, 10]⟩ : ByteArray).size = 15 := rfl
theorem k_type : (⟨#[116, 121, 112, 101, 32]⟩ : ByteArray).size = 5 := rfl
theorem k_struct : (⟨#[67, 108, 105, 101, 110, 116, 32, 115, 116, 114, 117, 99, 116, 123, 32, 67, 97, 108, 108, 101, 114, 32, 125, 10, 10]⟩ : ByteArray).size = 25 := rfl
theorem k_two : (⟨#[10, 10]⟩ : ByteArray).size = 2 := rfl
theorem k_disp : (⟨#[102, 117, 110, 99, 32, 68, 105, 115, 112, 97, 116, 99, 104, 40, 104, 32, 72, 97, 110, 100, 108, 101, 114, 115, 44, 32, 105, 100, 32, 105, 110, 116, 44, 32, 105, 110, 32, 97, 110, 121, 41, 32, 40, 97, 110, 121, 44, 32, 83, 116, 97, 116, 117, 115, 41, 32, 123, 10, 9, 115, 119, 105, 116, 99, 104, 32, 105, 100, 32, 123, 10]⟩ : ByteArray).size = 71 := rfl
theorem k_case : (⟨#[9, 99, 97, 115, 101, 32]⟩ : ByteArray).size = 6 := rfl
theorem k_colon : (⟨#[58, 10]⟩ : ByteArray).size = 2 := rfl
theorem k_ret : (⟨#[9, 9, 114, 101, 116, 117, 114, 110, 32, 104, 46]⟩ : ByteArray).size = 11 := rfl
theorem k_under : (⟨#[95]⟩ : ByteArray).size = 1 := rfl
theorem k_in : (⟨#[40, 105, 110, 46, 40]⟩ : ByteArray).size = 5 := rfl
theorem k_close : (⟨#[41, 41, 10]⟩ : ByteArray).size = 3 := rfl
theorem k_end : (⟨#[9, 125, 10, 9, 114, 101, 116, 117, 114, 110, 32, 110, 105, 108, 44, 32, 85, 110, 105, 109, 112, 108, 101, 109, 101, 110, 116, 101, 100, 10, 125, 10]⟩ : ByteArray).size = 32 := rfl
set_option maxHeartbeats 16000000 in
set_option maxRecDepth 20000 in
theorem written_any (ra : Option Addr) (n rc : Nat) (xs : List Rw) (w : World) (hP : Pow w) (hn : xs.length = n) (hn2 : n ≤ 1000000) (hf : ∀ r ∈ xs, FitRw r) (hH : RowsIn w (fun b => b < w.heap.size) 5 rrow (.slice ra n rc) xs) :
    Calls Tryz.prog 19 #[.slice ra n rc] w fun e w' => e = .returned (.string (mkB (textT (some []) xs))) ∧ Below w.heap.size w w' := by
  have HP := Lib.hid hP
  have HN := Lib.hid hn
  have HF := Lib.hid hf
  have HH := Lib.hid hH
  have hTl := text_len xs hf
  rw [hn] at hTl
  have HTP := Lib.hid (text_parts xs)
  have HTL := Lib.hid (tail_parts xs)
  obtain ⟨T, hT⟩ : ∃ T, textT (some []) xs = T := ⟨_, rfl⟩
  rw [hT] at hTl HTP ⊢
  clear hT hP hn hf hH
  have hI : Lib.IsBuilderF 78 5 w.heap.size w.heap.size (Lib.byteCells []) (w.alloc (.cells #[.pointer none, .slice none 0 0] 78)) := Lib.IsBuilderF.of (Lib.fresh_isBuilder 78 5 w)
  have HBw1 : Hid (Below w.heap.size w (w.alloc (.cells #[.pointer none, .slice none 0 0] 78))) := (Below.refl _ w).alloc (Nat.le_refl _) _
  go_enter Tryz.func19, Tryz.ntmps19
  go_wp2_with fail
  generalize (w.alloc (.cells #[.pointer none, .slice none 0 0] 78)) = w1 at *
  have HIw1 := Lib.hid hI
  clear hI
  refine (writeStringW w.heap.size w.heap.size ([]) ((⟨#[112, 97, 99, 107, 97, 103, 101, 32, 115, 116, 117, 98, 115, 10, 10]⟩ : ByteArray)) w1 HIw1.out (by rw [k_pack]; simp) HBw1.out.size).mono ?_
  rintro e w2 ⟨rfl, hW⟩
  have HRw2 := Lib.hid hW
  have HIw2 := Lib.hid hW.isb
  have HBw2 := Lib.hid (HBw1.out.trans hW.bel)
  have hsw2 := HBw2.out.size
  clear hW
  have HA2 : Hid ([] ++ (⟨#[112, 97, 99, 107, 97, 103, 101, 32, 115, 116, 117, 98, 115, 10, 10]⟩ : ByteArray).data.toList = flatT [wPack, []]) := by
    refine (?_ : _ = _)
    decide
  rw [HA2.out] at HIw2
  clear HRw2 HIw1 HA2
  have HT2 : Hid (T = flatT [wPack, []] ++ (flatT (headL (some []) xs) ++ tailT xs)) := HTP.out
  clear HTP
  generalize flatT [wPack, []] = acc0 at *
  go_wp2_with fail
  go_loopw [4, 12] (fun u i wr => ∃ (k : Nat) (s acc : List UInt8), k ≤ n ∧ i = .int .i64 (k : Int) ∧ u = .string (mkB s) ∧ T = acc ++ (flatT (headL (some s) (xs.drop k)) ++ tailT xs) ∧ Lib.IsBuilderF 78 5 w.heap.size w.heap.size (Lib.byteCells acc) wr ∧ Below w.heap.size w wr) (fun _ i _ => n - (intOf i).toNat)
  case atStart => exact ⟨0, [], acc0, Nat.zero_le _, rfl, rfl, HT2.out, HIw2.out, HBw2.out⟩
  case round =>
    generalize wr = w3 at *
    obtain ⟨k, s, acc, hk, rfl, rfl, hT, hI, hB⟩ := hrel
    have HTK := Lib.hid hT
    have HIw3 := Lib.hid hI
    have HBw3 := Lib.hid hB
    have hsw3 := hB.size
    have hlt3 := wr_ltS hI
    have hacc : acc.length ≤ 14000000 * n + 1000 := by
      have := congrArg List.length hT
      simp only [List.length_append] at this
      omega
    clear hT hI hB HT2 HIw2 HBw1 HBw2
    by_cases hkn : k < n
    · obtain ⟨r, hr⟩ : ∃ r, xs[k]? = some r := ⟨_, List.getElem?_eq_getElem (by rw [HN.out]; exact hkn)⟩
      have HFR := HF.out r (List.mem_of_getElem? hr)
      have hml := ml_len r HFR
      have hty := ty_len r HFR
      have HFRh := Lib.hid HFR
      obtain ⟨g, o, c, hsl, hg, hcells⟩ := rw_cells HH.out hr
      have HD : Hid (xs.drop k = r :: xs.drop (k + 1)) := by
        refine (?_ : _ = _)
        obtain ⟨h1, h2⟩ := List.getElem?_eq_some_iff.1 hr
        rw [List.drop_eq_getElem_cons h1, h2]
      have hra : ra = some ⟨g, o, none⟩ := (Value.slice.inj hsl).1
      subst hra
      obtain ⟨e0, e1, e2, e3, e4⟩ := hcells w3 (HBw3.out.block g hg)
      have hk0 : (0 : Int) ≤ (k : Int) := by omega
      have hk1 : (k : Int) < (n : Int) := by omega
      have hwk : IntKind.i64.wrap ((k : Int) + 1) = (k : Int) + 1 := by rw [IntKind.wrap_i64]; omega
      have hbY : Below w3.heap.size w3 (w3.alloc (.cells #[.int .i64 r.id, .string (mkB r.sv), .string (mkB r.mt), .string (mkB r.inn), .string (mkB r.out)] 50)) := (Below.refl _ _).alloc (Nat.le_refl _) _
      have hY : (w3.alloc (.cells #[.int .i64 r.id, .string (mkB r.sv), .string (mkB r.mt), .string (mkB r.inn), .string (mkB r.out)] 50)).heap[w3.heap.size]? = some (.cells #[.int .i64 r.id, .string (mkB r.sv), .string (mkB r.mt), .string (mkB r.inn), .string (mkB r.out)] 50 (0, 0)) := alloc_heap_new _ _
      clear hr hsl hcells HFR
      go_upto_region 7 with fail
      generalize (w3.alloc (.cells #[.int .i64 r.id, .string (mkB r.sv), .string (mkB r.mt), .string (mkB r.inn), .string (mkB r.out)] 50)) = Y at *
      have HY := Lib.hid hY
      have HBY := Lib.hid (HBw3.out.trans (hbY.mono hsw3))
      have HIY := Lib.hid (isb_below HIw3.out hbY)
      have hsY := hbY.size
      have y1 := cell_at hY 1 rfl
      clear hY hbY e0 e1 e2 e3 e4 HIw3
      by_cases hse : r.sv = s
      · have hse2 : mkB r.sv = mkB s := by rw [hse]
        have HTX : Hid (T = (acc ++ (flatT [mlL r, []])) ++ (flatT (headL (some s) (xs.drop (k + 1))) ++ tailT xs)) := by
          refine (?_ : _ = _)
          conv => lhs; rw [HTK.out, HD.out, head_step, if_pos hse.symm, hse]
          simp only [List.append_assoc, List.nil_append]
        have y0 := cell_at HY.out 0 rfl
        have y2 := cell_at HY.out 2 rfl
        have y3 := cell_at HY.out 3 rfl
        have y4 := cell_at HY.out 4 rfl
        rw [hse2] at y1
        have y1' : Y.cell? ⟨w3.heap.size, 1, none⟩ = some (.string (mkB s)) := y1
        have hmL := methodLine_any r Y (HP.out.below HBY.out) HFRh.out
        unfold rrow at hmL
        rw [hse2] at hmL
        clear hse hse2 HTK HD
        go_wp2_with fail
        refine hmL.mono ?_
        rintro e w5 ⟨rfl, hb⟩
        have HBw5 := Lib.hid (HBY.out.trans (hb.mono (by omega)))
        have HIw5 := Lib.hid (isb_below HIY.out hb)
        have hz5 := sumZ (mkB (mlL r)) (⟨#[10, 10]⟩ : ByteArray) (by rw [mkB_sz, k_two]; omega)
        clear hb hmL HIY y0 y1 y1' y2 y3 y4
        go_wp2_with fail
        refine (writeStringW w.heap.size w.heap.size (acc) (mkB (mlL r) ++ (⟨#[10, 10]⟩ : ByteArray)) w5 HIw5.out (by rw [ByteArray.size_append, mkB_sz, k_two]; omega) HBw5.out.size).mono ?_
        rintro e w6 ⟨rfl, hW⟩
        have HRw6 := Lib.hid hW
        have HIw6 := Lib.hid hW.isb
        have HBw6 := Lib.hid (HBw5.out.trans hW.bel)
        have hsw6 := HBw6.out.size
        clear hW
        have HA6 : Hid (acc ++ (mkB (mlL r) ++ (⟨#[10, 10]⟩ : ByteArray)).data.toList = acc ++ flatT [mlL r, []]) := by
          refine (?_ : _ = _)
          rw [show (mkB (mlL r) ++ (⟨#[10, 10]⟩ : ByteArray) : ByteArray) = mkB (mlL r ++ [10, 10]) by rw [mkB_ap]; rfl, show (mkB (mlL r ++ [10, 10])).data.toList = mlL r ++ [10, 10] by simp [mkB]]
          unfold flatT; simp
        rw [HA6.out] at HIw6
        clear HA6 HRw6 HIw5
        go_wp2_with fail
        go_roundw
        case rel => exact ⟨k + 1, s, _, by omega, by go_num, rfl, HTX.out, HIw6.out, HBw6.out⟩
        case measure => simp [intOf]; omega
      · have hse3 : ¬ mkB r.sv = mkB s := by
          intro e
          have := congrArg (fun x : ByteArray => x.toList) e
          simp only [mkB_list] at this
          exact hse this
        have hse2 : ((mkB r.sv).toList == (mkB s).toList) = false := by
          rw [mkB_list, mkB_list, beq_eq_false_iff_ne]; exact hse
        have hse4 : ¬ r.sv = s := hse
        have HTX : Hid (T = ((acc ++ flatT [tyL r.sv, []]) ++ flatT [mlL r, []]) ++ (flatT (headL (some r.sv) (xs.drop (k + 1))) ++ tailT xs)) := by
          refine (?_ : _ = _)
          conv => lhs; rw [HTK.out, HD.out, head_step, if_neg (Ne.symm hse)]
          simp only [List.append_assoc]
        have hz1 := sumZ (⟨#[116, 121, 112, 101, 32]⟩ : ByteArray) (mkB r.sv) (by rw [mkB_sz, k_type]; have := HFRh.out.2.1; omega)
        have hz2 := sumZ ((⟨#[116, 121, 112, 101, 32]⟩ : ByteArray) ++ mkB r.sv) (⟨#[67, 108, 105, 101, 110, 116, 32, 115, 116, 114, 117, 99, 116, 123, 32, 67, 97, 108, 108, 101, 114, 32, 125, 10, 10]⟩ : ByteArray) (by rw [ByteArray.size_append, mkB_sz, k_type, k_struct]; have := HFRh.out.2.1; omega)
        clear hse HTK HD
        go_wp2_with fail
        refine (writeStringW w.heap.size w.heap.size (acc) ((⟨#[116, 121, 112, 101, 32]⟩ : ByteArray) ++ mkB r.sv ++ (⟨#[67, 108, 105, 101, 110, 116, 32, 115, 116, 114, 117, 99, 116, 123, 32, 67, 97, 108, 108, 101, 114, 32, 125, 10, 10]⟩ : ByteArray)) Y HIY.out (by simp only [ByteArray.size_append, mkB_sz]; rw [k_type, k_struct]; have := HFRh.out.2.1; omega) HBY.out.size).mono ?_
        rintro e w4 ⟨rfl, hW⟩
        have HRw4 := Lib.hid hW
        have HIw4 := Lib.hid hW.isb
        have HBw4 := Lib.hid (HBY.out.trans hW.bel)
        have hsw4 := HBw4.out.size
        clear hW
        have HA4 : Hid (acc ++ ((⟨#[116, 121, 112, 101, 32]⟩ : ByteArray) ++ mkB r.sv ++ (⟨#[67, 108, 105, 101, 110, 116, 32, 115, 116, 114, 117, 99, 116, 123, 32, 67, 97, 108, 108, 101, 114, 32, 125, 10, 10]⟩ : ByteArray)).data.toList = acc ++ flatT [tyL r.sv, []]) := by
          refine (?_ : _ = _)
          rw [show ((⟨#[116, 121, 112, 101, 32]⟩ : ByteArray) ++ mkB r.sv ++ (⟨#[67, 108, 105, 101, 110, 116, 32, 115, 116, 114, 117, 99, 116, 123, 32, 67, 97, 108, 108, 101, 114, 32, 125, 10, 10]⟩ : ByteArray) : ByteArray) = mkB (wType ++ r.sv ++ (wStruct ++ [10, 10])) by rw [mkB_ap, mkB_ap]; rfl, show ∀ x, (mkB x).data.toList = x by intro x; simp [mkB]]
          unfold flatT tyL; simp
        rw [HA4.out] at HIw4
        have HXw4 := Lib.hid (HRw4.out.block HY.out (by decide) (by omega))
        clear HA4 HRw4 HIY hz1 hz2 y1
        obtain ⟨acc4, h4⟩ : ∃ a, a = acc ++ flatT [tyL r.sv, []] := ⟨_, rfl⟩
        have hacc4 : acc4.length ≤ 14000000 * n + 1000 := by
          have e1 := HTX.out
          rw [← h4] at e1
          have := congrArg List.length e1
          simp only [List.length_append] at this
          omega
        rw [← h4] at HIw4 HTX
        clear h4
        have y0 := cell_at HXw4.out 0 rfl
        have y1 := cell_at HXw4.out 1 rfl
        have y2 := cell_at HXw4.out 2 rfl
        have y3 := cell_at HXw4.out 3 rfl
        have y4 := cell_at HXw4.out 4 rfl
        have hmL := methodLine_any r w4 (HP.out.below HBw4.out) HFRh.out
        unfold rrow at hmL
        go_wp2_with fail
        refine hmL.mono ?_
        rintro e w5 ⟨rfl, hb⟩
        have HBw5 := Lib.hid (HBw4.out.trans (hb.mono HBw4.out.size))
        have HIw5 := Lib.hid (isb_below HIw4.out hb)
        have hz5 := sumZ (mkB (mlL r)) (⟨#[10, 10]⟩ : ByteArray) (by rw [mkB_sz, k_two]; omega)
        clear hb hmL HIw4 y0 y1 y2 y3 y4 HXw4
        go_wp2_with fail
        refine (writeStringW w.heap.size w.heap.size (acc4) (mkB (mlL r) ++ (⟨#[10, 10]⟩ : ByteArray)) w5 HIw5.out (by rw [ByteArray.size_append, mkB_sz, k_two]; omega) HBw5.out.size).mono ?_
        rintro e w6 ⟨rfl, hW⟩
        have HRw6 := Lib.hid hW
        have HIw6 := Lib.hid hW.isb
        have HBw6 := Lib.hid (HBw5.out.trans hW.bel)
        have hsw6 := HBw6.out.size
        clear hW
        have HA6 : Hid (acc4 ++ (mkB (mlL r) ++ (⟨#[10, 10]⟩ : ByteArray)).data.toList = acc4 ++ flatT [mlL r, []]) := by
          refine (?_ : _ = _)
          rw [show (mkB (mlL r) ++ (⟨#[10, 10]⟩ : ByteArray) : ByteArray) = mkB (mlL r ++ [10, 10]) by rw [mkB_ap]; rfl, show (mkB (mlL r ++ [10, 10])).data.toList = mlL r ++ [10, 10] by simp [mkB]]
          unfold flatT; simp
        rw [HA6.out] at HIw6
        clear HA6 HRw6 HIw5
        go_wp2_with fail
        go_roundw
        case rel => exact ⟨k + 1, r.sv, _, by omega, by go_num, rfl, HTX.out, HIw6.out, HBw6.out⟩
        case measure => simp [intOf]; omega
    · obtain rfl : k = n := by omega
      have HTD : Hid (T = (acc ++ flatT [wDisp, wSwitch]) ++ (flatT (caseL xs) ++ flatT [wE1, wE2, wE3])) := by
        refine (?_ : _ = _)
        conv => lhs; rw [HTK.out, List.drop_of_length_le (by rw [HN.out]; omega), headL, HTL.out]
        simp only [List.append_assoc]
        rfl
      clear HTK HTL
      go_wp2_with fail
      refine (writeStringW w.heap.size w.heap.size (acc) ((⟨#[102, 117, 110, 99, 32, 68, 105, 115, 112, 97, 116, 99, 104, 40, 104, 32, 72, 97, 110, 100, 108, 101, 114, 115, 44, 32, 105, 100, 32, 105, 110, 116, 44, 32, 105, 110, 32, 97, 110, 121, 41, 32, 40, 97, 110, 121, 44, 32, 83, 116, 97, 116, 117, 115, 41, 32, 123, 10, 9, 115, 119, 105, 116, 99, 104, 32, 105, 100, 32, 123, 10]⟩ : ByteArray)) w3 HIw3.out (by rw [k_disp]; omega) HBw3.out.size).mono ?_
      rintro e w4 ⟨rfl, hW⟩
      have HRw4 := Lib.hid hW
      have HIw4 := Lib.hid hW.isb
      have HBw4 := Lib.hid (HBw3.out.trans hW.bel)
      have hsw4 := HBw4.out.size
      clear hW
      have HA4 : Hid (acc ++ (⟨#[102, 117, 110, 99, 32, 68, 105, 115, 112, 97, 116, 99, 104, 40, 104, 32, 72, 97, 110, 100, 108, 101, 114, 115, 44, 32, 105, 100, 32, 105, 110, 116, 44, 32, 105, 110, 32, 97, 110, 121, 41, 32, 40, 97, 110, 121, 44, 32, 83, 116, 97, 116, 117, 115, 41, 32, 123, 10, 9, 115, 119, 105, 116, 99, 104, 32, 105, 100, 32, 123, 10]⟩ : ByteArray).data.toList = acc ++ flatT [wDisp, wSwitch]) := by
        refine (?_ : _ = _)
        rw [show (⟨#[102, 117, 110, 99, 32, 68, 105, 115, 112, 97, 116, 99, 104, 40, 104, 32, 72, 97, 110, 100, 108, 101, 114, 115, 44, 32, 105, 100, 32, 105, 110, 116, 44, 32, 105, 110, 32, 97, 110, 121, 41, 32, 40, 97, 110, 121, 44, 32, 83, 116, 97, 116, 117, 115, 41, 32, 123, 10, 9, 115, 119, 105, 116, 99, 104, 32, 105, 100, 32, 123, 10]⟩ : ByteArray).data.toList = flatT [wDisp, wSwitch] by decide]
      rw [HA4.out] at HIw4
      clear HA4 HRw4 HIw3
      generalize acc ++ flatT [wDisp, wSwitch] = acc4 at *
      go_wp2_with fail
      go_loopw [34] (fun i wr => ∃ (q : Nat) (acc : List UInt8), q ≤ k ∧ i = .int .i64 (q : Int) ∧ T = acc ++ (flatT (caseL (xs.drop q)) ++ flatT [wE1, wE2, wE3]) ∧ Lib.IsBuilderF 78 5 w.heap.size w.heap.size (Lib.byteCells acc) wr ∧ Below w.heap.size w wr) (fun i _ => k - (intOf i).toNat)
      case atStart => exact ⟨0, acc4, Nat.zero_le _, rfl, HTD.out, HIw4.out, HBw4.out⟩
      case round =>
        generalize wr = w5 at *
        obtain ⟨q, acc5, hq, rfl, hT, hI, hB⟩ := hrel
        have HTQ := Lib.hid hT
        have HIw5 := Lib.hid hI
        have HBw5 := Lib.hid hB
        have hsw5 := hB.size
        have hlt5 := wr_ltS hI
        have hacc5 : acc5.length ≤ 14000000 * k + 1000 := by
          have := congrArg List.length hT
          simp only [List.length_append] at this
          omega
        clear hT hI hB HTD HIw4
        by_cases hqk : q < k
        · obtain ⟨r, hr⟩ : ∃ r, xs[q]? = some r := ⟨_, List.getElem?_eq_getElem (by rw [HN.out]; exact hqk)⟩
          have HFR := HF.out r (List.mem_of_getElem? hr)
          have hl1 := c1_len r HFR
          have hl2 := c2_len r HFR
          obtain ⟨⟨f0, f0b⟩, f1, f2, f3, f4⟩ := HFR
          have hil := Lib.itoa_length_le r.id f0 f0b
          obtain ⟨g, o, c, hsl, hg, hcells⟩ := rw_cells HH.out hr
          have HTX : Hid (T = ((acc5 ++ flatT [c1L r]) ++ flatT [c2L r]) ++ (flatT (caseL (xs.drop (q + 1))) ++ flatT [wE1, wE2, wE3])) := by
            refine (?_ : _ = _)
            obtain ⟨h1, h2⟩ := List.getElem?_eq_some_iff.1 hr
            conv => lhs; rw [HTQ.out, List.drop_eq_getElem_cons h1, h2, case_step]
            simp only [List.append_assoc]
          have hra : ra = some ⟨g, o, none⟩ := (Value.slice.inj hsl).1
          subst hra
          obtain ⟨e0, e1, e2, e3, e4⟩ := hcells w5 (HBw5.out.block g hg)
          have hk0 : (0 : Int) ≤ (q : Int) := by omega
          have hk1 : (q : Int) < (k : Int) := by omega
          have hwk : IntKind.i64.wrap ((q : Int) + 1) = (q : Int) + 1 := by rw [IntKind.wrap_i64]; omega
          have hbY : Below w5.heap.size w5 (w5.alloc (.cells #[.int .i64 r.id, .string (mkB r.sv), .string (mkB r.mt), .string (mkB r.inn), .string (mkB r.out)] 50)) := (Below.refl _ _).alloc (Nat.le_refl _) _
          have hY : (w5.alloc (.cells #[.int .i64 r.id, .string (mkB r.sv), .string (mkB r.mt), .string (mkB r.inn), .string (mkB r.out)] 50)).heap[w5.heap.size]? = some (.cells #[.int .i64 r.id, .string (mkB r.sv), .string (mkB r.mt), .string (mkB r.inn), .string (mkB r.out)] 50 (0, 0)) := alloc_heap_new _ _
          clear hr hsl hcells HTQ
          go_upto_region 16 with fail
          generalize (w5.alloc (.cells #[.int .i64 r.id, .string (mkB r.sv), .string (mkB r.mt), .string (mkB r.inn), .string (mkB r.out)] 50)) = Y at *
          have HY := Lib.hid hY
          have HBY := Lib.hid (HBw5.out.trans (hbY.mono hsw5))
          have HIY := Lib.hid (isb_below HIw5.out hbY)
          have hsY := hbY.size
          have y0 := cell_at hY 0 rfl
          have hltY := blk_lt hY
          clear hY hbY e0 e1 e2 e3 e4 HIw5
          have hIt := itoaS r.id f0 f0b Y (HP.out.below HBY.out)
          have z1 := sumZ (⟨#[9, 99, 97, 115, 101, 32]⟩ : ByteArray) (mkB (Lib.itoa r.id)) (by rw [mkB_sz, k_case]; omega)
          have z2 := sumZ ((⟨#[9, 99, 97, 115, 101, 32]⟩ : ByteArray) ++ mkB (Lib.itoa r.id)) (⟨#[58, 10]⟩ : ByteArray) (by rw [ByteArray.size_append, mkB_sz, k_case, k_colon]; omega)
          go_wp2_with fail
          refine hIt.mono ?_
          rintro e w6 ⟨rfl, hb⟩
          have HBw6 := Lib.hid (HBY.out.trans (hb.mono (by omega)))
          have HIw6 := Lib.hid (isb_below HIY.out hb)
          have HYw6 := Lib.hid ((hb.block _ hltY).trans HY.out)
          clear hb hIt HIY y0
          go_wp2_with fail
          refine (writeStringW w.heap.size w.heap.size (acc5) ((⟨#[9, 99, 97, 115, 101, 32]⟩ : ByteArray) ++ mkB (Lib.itoa r.id) ++ (⟨#[58, 10]⟩ : ByteArray)) w6 HIw6.out (by simp only [ByteArray.size_append, mkB_sz]; rw [k_case, k_colon]; omega) HBw6.out.size).mono ?_
          rintro e w7 ⟨rfl, hW⟩
          have HRw7 := Lib.hid hW
          have HIw7 := Lib.hid hW.isb
          have HBw7 := Lib.hid (HBw6.out.trans hW.bel)
          have hsw7 := HBw7.out.size
          clear hW
          have HA7 : Hid (acc5 ++ ((⟨#[9, 99, 97, 115, 101, 32]⟩ : ByteArray) ++ mkB (Lib.itoa r.id) ++ (⟨#[58, 10]⟩ : ByteArray)).data.toList = acc5 ++ flatT [c1L r]) := by
            refine (?_ : _ = _)
            rw [show ((⟨#[9, 99, 97, 115, 101, 32]⟩ : ByteArray) ++ mkB (Lib.itoa r.id) ++ (⟨#[58, 10]⟩ : ByteArray) : ByteArray) = mkB (wCase ++ Lib.itoa r.id ++ (wColon ++ [10])) by rw [mkB_ap, mkB_ap]; rfl, show ∀ x, (mkB x).data.toList = x by intro x; simp [mkB]]
            unfold flatT c1L; simp
          rw [HA7.out] at HIw7
          have HXw7 := Lib.hid (HRw7.out.block HYw6.out (by decide) (by omega))
          clear HA7 HRw7 HIw6 z1 z2 HYw6
          have hacc7 : (acc5 ++ flatT [c1L r]).length ≤ 14000000 * k + 1000 := by
            have := congrArg List.length HTX.out
            simp only [List.length_append] at this ⊢
            omega
          have y1 := cell_at HXw7.out 1 rfl
          have y2 := cell_at HXw7.out 2 rfl
          have y3 := cell_at HXw7.out 3 rfl
          generalize acc5 ++ flatT [c1L r] = acc7 at *
          have q0 : (⟨#[9, 9, 114, 101, 116, 117, 114, 110, 32, 104, 46]⟩ : ByteArray).size ≤ 11 := by rw [k_ret]; omega
          have s1 := sumZ ((⟨#[9, 9, 114, 101, 116, 117, 114, 110, 32, 104, 46]⟩ : ByteArray)) (mkB r.sv) (by rw [mkB_sz]; omega)
          have q1 : ((⟨#[9, 9, 114, 101, 116, 117, 114, 110, 32, 104, 46]⟩ : ByteArray) ++ mkB r.sv).size ≤ 1000011 := by rw [ByteArray.size_append, mkB_sz]; omega
          have s2 := sumZ ((⟨#[9, 9, 114, 101, 116, 117, 114, 110, 32, 104, 46]⟩ : ByteArray) ++ mkB r.sv) ((⟨#[95]⟩ : ByteArray)) (by rw [k_under]; omega)
          have q2 : ((⟨#[9, 9, 114, 101, 116, 117, 114, 110, 32, 104, 46]⟩ : ByteArray) ++ mkB r.sv ++ (⟨#[95]⟩ : ByteArray)).size ≤ 1000012 := by rw [ByteArray.size_append, k_under]; omega
          have s3 := sumZ ((⟨#[9, 9, 114, 101, 116, 117, 114, 110, 32, 104, 46]⟩ : ByteArray) ++ mkB r.sv ++ (⟨#[95]⟩ : ByteArray)) (mkB r.mt) (by rw [mkB_sz]; omega)
          have q3 : ((⟨#[9, 9, 114, 101, 116, 117, 114, 110, 32, 104, 46]⟩ : ByteArray) ++ mkB r.sv ++ (⟨#[95]⟩ : ByteArray) ++ mkB r.mt).size ≤ 2000012 := by rw [ByteArray.size_append, mkB_sz]; omega
          have s4 := sumZ ((⟨#[9, 9, 114, 101, 116, 117, 114, 110, 32, 104, 46]⟩ : ByteArray) ++ mkB r.sv ++ (⟨#[95]⟩ : ByteArray) ++ mkB r.mt) ((⟨#[40, 105, 110, 46, 40]⟩ : ByteArray)) (by rw [k_in]; omega)
          have q4 : ((⟨#[9, 9, 114, 101, 116, 117, 114, 110, 32, 104, 46]⟩ : ByteArray) ++ mkB r.sv ++ (⟨#[95]⟩ : ByteArray) ++ mkB r.mt ++ (⟨#[40, 105, 110, 46, 40]⟩ : ByteArray)).size ≤ 2000017 := by rw [ByteArray.size_append, k_in]; omega
          have s5 := sumZ ((⟨#[9, 9, 114, 101, 116, 117, 114, 110, 32, 104, 46]⟩ : ByteArray) ++ mkB r.sv ++ (⟨#[95]⟩ : ByteArray) ++ mkB r.mt ++ (⟨#[40, 105, 110, 46, 40]⟩ : ByteArray)) (mkB r.inn) (by rw [mkB_sz]; omega)
          have q5 : ((⟨#[9, 9, 114, 101, 116, 117, 114, 110, 32, 104, 46]⟩ : ByteArray) ++ mkB r.sv ++ (⟨#[95]⟩ : ByteArray) ++ mkB r.mt ++ (⟨#[40, 105, 110, 46, 40]⟩ : ByteArray) ++ mkB r.inn).size ≤ 3000017 := by rw [ByteArray.size_append, mkB_sz]; omega
          have s6 := sumZ ((⟨#[9, 9, 114, 101, 116, 117, 114, 110, 32, 104, 46]⟩ : ByteArray) ++ mkB r.sv ++ (⟨#[95]⟩ : ByteArray) ++ mkB r.mt ++ (⟨#[40, 105, 110, 46, 40]⟩ : ByteArray) ++ mkB r.inn) ((⟨#[41, 41, 10]⟩ : ByteArray)) (by rw [k_close]; omega)
          have q6 : ((⟨#[9, 9, 114, 101, 116, 117, 114, 110, 32, 104, 46]⟩ : ByteArray) ++ mkB r.sv ++ (⟨#[95]⟩ : ByteArray) ++ mkB r.mt ++ (⟨#[40, 105, 110, 46, 40]⟩ : ByteArray) ++ mkB r.inn ++ (⟨#[41, 41, 10]⟩ : ByteArray)).size ≤ 3000020 := by rw [ByteArray.size_append, k_close]; omega
          have Q6 := Lib.hid q6
          clear q0 q1 q2 q3 q4 q5 q6
          go_wp2_with fail
          refine (writeStringW w.heap.size w.heap.size (acc7) ((⟨#[9, 9, 114, 101, 116, 117, 114, 110, 32, 104, 46]⟩ : ByteArray) ++ mkB r.sv ++ (⟨#[95]⟩ : ByteArray) ++ mkB r.mt ++ (⟨#[40, 105, 110, 46, 40]⟩ : ByteArray) ++ mkB r.inn ++ (⟨#[41, 41, 10]⟩ : ByteArray)) w7 HIw7.out (by have := Q6.out; omega) HBw7.out.size).mono ?_
          rintro e w8 ⟨rfl, hW⟩
          have HRw8 := Lib.hid hW
          have HIw8 := Lib.hid hW.isb
          have HBw8 := Lib.hid (HBw7.out.trans hW.bel)
          have hsw8 := HBw8.out.size
          clear hW
          have HA8 : Hid (acc7 ++ ((⟨#[9, 9, 114, 101, 116, 117, 114, 110, 32, 104, 46]⟩ : ByteArray) ++ mkB r.sv ++ (⟨#[95]⟩ : ByteArray) ++ mkB r.mt ++ (⟨#[40, 105, 110, 46, 40]⟩ : ByteArray) ++ mkB r.inn ++ (⟨#[41, 41, 10]⟩ : ByteArray)).data.toList = acc7 ++ flatT [c2L r]) := by
            refine (?_ : _ = _)
            rw [show ((⟨#[9, 9, 114, 101, 116, 117, 114, 110, 32, 104, 46]⟩ : ByteArray) ++ mkB r.sv ++ (⟨#[95]⟩ : ByteArray) ++ mkB r.mt ++ (⟨#[40, 105, 110, 46, 40]⟩ : ByteArray) ++ mkB r.inn ++ (⟨#[41, 41, 10]⟩ : ByteArray) : ByteArray) = mkB (wRet ++ r.sv ++ wUnder ++ r.mt ++ wInDot ++ r.inn ++ (wClose ++ [10])) by simp only [mkB_ap]; rfl, show ∀ x, (mkB x).data.toList = x by intro x; simp [mkB]]
            unfold flatT c2L; simp
          rw [HA8.out] at HIw8
          clear HA8 HRw8 HIw7 s1 s2 s3 s4 s5 s6 y1 y2 y3 HXw7
          go_wp2_with fail
          go_roundw
          case rel => exact ⟨q + 1, _, by omega, by go_num, HTX.out, HIw8.out, HBw8.out⟩
          case measure => simp [intOf]; omega
        · obtain rfl : q = k := by omega
          have HTE : Hid (T = acc5 ++ flatT [wE1, wE2, wE3]) := by
            refine (?_ : _ = _)
            conv => lhs; rw [HTQ.out, List.drop_of_length_le (by rw [HN.out]; omega)]
            rfl
          clear HTQ
          go_wp2_with fail
          refine (writeStringW w.heap.size w.heap.size (acc5) ((⟨#[9, 125, 10, 9, 114, 101, 116, 117, 114, 110, 32, 110, 105, 108, 44, 32, 85, 110, 105, 109, 112, 108, 101, 109, 101, 110, 116, 101, 100, 10, 125, 10]⟩ : ByteArray)) w5 HIw5.out (by rw [k_end]; omega) HBw5.out.size).mono ?_
          rintro e w6 ⟨rfl, hW⟩
          have HRw6 := Lib.hid hW
          have HIw6 := Lib.hid hW.isb
          have HBw6 := Lib.hid (HBw5.out.trans hW.bel)
          have hsw6 := HBw6.out.size
          clear hW
          have HA6 : Hid (acc5 ++ (⟨#[9, 125, 10, 9, 114, 101, 116, 117, 114, 110, 32, 110, 105, 108, 44, 32, 85, 110, 105, 109, 112, 108, 101, 109, 101, 110, 116, 101, 100, 10, 125, 10]⟩ : ByteArray).data.toList = T) := by
            refine (?_ : _ = _)
            rw [show (⟨#[9, 125, 10, 9, 114, 101, 116, 117, 114, 110, 32, 110, 105, 108, 44, 32, 85, 110, 105, 109, 112, 108, 101, 109, 101, 110, 116, 101, 100, 10, 125, 10]⟩ : ByteArray).data.toList = flatT [wE1, wE2, wE3] by decide, ← HTE.out]
          rw [HA6.out] at HIw6
          have hne : T ≠ [] := by
            rw [HTE.out]
            intro e
            have := congrArg List.length e
            simp only [List.length_append, List.length_nil] at this
            have h2 : (flatT [wE1, wE2, wE3]).length = 32 := by decide
            omega
          have hS := stringW w.heap.size w.heap.size T w6 HIw6.out hne
          clear HA6 HRw6 HIw5 HTE hne
          go_wp2_with fail
          refine hS.mono ?_
          rintro e w7 ⟨rfl, hb⟩
          have HBw7 := Lib.hid (HBw6.out.trans hb)
          clear hS hb
          go_wp2_with fail
          go_ret
          exact ⟨rfl, HBw7.out⟩
end Go.Proofs.YtkhnicppcbgdiaaGreatDoor
