/-
  The walk over the document's own Text of rows.
-/
import Derived.Test.YtkhnicppcbgdiaaGreatDoorM18
namespace Go.Proofs.YtkhnicppcbgdiaaGreatDoor
set_option linter.unusedVariables false
open Go.ChangeShapes Go.WideShapes Go.ChangeAt Go.RowKit

theorem text_partsN (xs : List Rw) : textT none xs = flatT [wPack, []] ++ (flatT (headL none xs) ++ tailT xs) := by
  unfold textT linesT tailT
  simp only [flatT_app, List.append_assoc]
theorem head_stepP (p : Option (List UInt8)) (r : Rw) (t : List Rw) : flatT (headL p (r :: t)) = (if p = some r.sv then [] else flatT [tyL r.sv, []]) ++ (flatT [mlL r, []] ++ flatT (headL (some r.sv) t)) := by
  rw [headL]
  by_cases h : p = some r.sv
  · rw [if_pos h, if_pos h]
    simp only [flatT_app]
    rfl
  · rw [if_neg h, if_neg h]
    simp only [flatT_app]
theorem head_lenP (l : List Rw) (p : Option (List UInt8)) (h : ∀ r ∈ l, FitRw r) : (flatT (headL p l)).length ≤ 7000000 * l.length := by
  cases l with
  | nil => unfold headL flatT; simp
  | cons r t =>
    have ih := head_len t r.sv fun x hx => h x (List.mem_cons_of_mem _ hx)
    have h1 := ml_len r (h r List.mem_cons_self)
    have h2 := ty_len r (h r List.mem_cons_self)
    rw [head_stepP, List.length_append, List.length_append, flat_two, List.length_cons]
    have : (if p = some r.sv then [] else flatT [tyL r.sv, []]).length ≤ 1000102 := by
      split
      · simp
      · rw [flat_two]; omega
    omega
theorem text_lenN (l : List Rw) (h : ∀ r ∈ l, FitRw r) : (textT none l).length ≤ 14000000 * l.length + 1000 := by
  have h1 := head_lenP l none h
  have h2 := case_len l h
  rw [text_partsN, tail_parts]
  simp only [List.length_append, show (flatT [wPack, []]).length = 15 from rfl, show (flatT [wDisp, wSwitch]).length = 71 from rfl, show (flatT [wE1, wE2, wE3]).length = 32 from rfl]
  omega
theorem t_func : (⟨#[102, 117, 110, 99, 32, 40, 99, 32]⟩ : ByteArray).size = 8 := rfl
theorem t_client : (⟨#[67, 108, 105, 101, 110, 116, 41, 32]⟩ : ByteArray).size = 8 := rfl
theorem t_in : (⟨#[40, 105, 110, 32]⟩ : ByteArray).size = 4 := rfl
theorem t_mid : (⟨#[41, 32, 40]⟩ : ByteArray).size = 3 := rfl
theorem t_stat : (⟨#[44, 32, 83, 116, 97, 116, 117, 115, 41, 32, 123, 32, 114, 101, 116, 117, 114, 110, 32, 99, 97, 108, 108, 91]⟩ : ByteArray).size = 24 := rfl
theorem t_caller : (⟨#[93, 40, 99, 46, 67, 97, 108, 108, 101, 114, 44, 32]⟩ : ByteArray).size = 12 := rfl
theorem t_end : (⟨#[44, 32, 105, 110, 41, 32, 125, 10, 10]⟩ : ByteArray).size = 9 := rfl
theorem t_type : (⟨#[116, 121, 112, 101, 32]⟩ : ByteArray).size = 5 := rfl
theorem t_struct : (⟨#[67, 108, 105, 101, 110, 116, 32, 115, 116, 114, 117, 99, 116, 123, 32, 67, 97, 108, 108, 101, 114, 32, 125, 10, 10]⟩ : ByteArray).size = 25 := rfl
theorem t_disp : (⟨#[102, 117, 110, 99, 32, 68, 105, 115, 112, 97, 116, 99, 104, 40, 104, 32, 72, 97, 110, 100, 108, 101, 114, 115, 44, 32, 105, 100, 32, 105, 110, 116, 44, 32, 105, 110, 32, 97, 110, 121, 41, 32, 40, 97, 110, 121, 44, 32, 83, 116, 97, 116, 117, 115, 41, 32, 123, 10, 9, 115, 119, 105, 116, 99, 104, 32, 105, 100, 32, 123, 10]⟩ : ByteArray).size = 71 := rfl
theorem t_case : (⟨#[9, 99, 97, 115, 101, 32]⟩ : ByteArray).size = 6 := rfl
theorem t_ret : (⟨#[58, 10, 9, 9, 114, 101, 116, 117, 114, 110, 32, 104, 46]⟩ : ByteArray).size = 13 := rfl
theorem t_under : (⟨#[95]⟩ : ByteArray).size = 1 := rfl
theorem t_inn : (⟨#[40, 105, 110, 46, 40]⟩ : ByteArray).size = 5 := rfl
theorem t_close : (⟨#[41, 41, 10]⟩ : ByteArray).size = 3 := rfl
theorem t_last : (⟨#[9, 125, 10, 9, 114, 101, 116, 117, 114, 110, 32, 110, 105, 108, 44, 32, 85, 110, 105, 109, 112, 108, 101, 109, 101, 110, 116, 101, 100, 10, 125, 10]⟩ : ByteArray).size = 32 := rfl
theorem line8 (acc : List UInt8) (r : Rw) : mkB acc ++ (⟨#[102, 117, 110, 99, 32, 40, 99, 32]⟩ : ByteArray) ++ mkB r.sv ++ (⟨#[67, 108, 105, 101, 110, 116, 41, 32]⟩ : ByteArray) ++ mkB r.mt ++ (⟨#[40, 105, 110, 32]⟩ : ByteArray) ++ mkB r.inn ++ (⟨#[41, 32, 40]⟩ : ByteArray) ++ mkB r.out ++ (⟨#[44, 32, 83, 116, 97, 116, 117, 115, 41, 32, 123, 32, 114, 101, 116, 117, 114, 110, 32, 99, 97, 108, 108, 91]⟩ : ByteArray) ++ mkB r.out ++ (⟨#[93, 40, 99, 46, 67, 97, 108, 108, 101, 114, 44, 32]⟩ : ByteArray) ++ mkB (Lib.itoa r.id) ++ (⟨#[44, 32, 105, 110, 41, 32, 125, 10, 10]⟩ : ByteArray) = mkB (acc ++ flatT [mlL r, []]) := by
  show mkB acc ++ mkB wFunc ++ mkB r.sv ++ mkB wClient ++ mkB r.mt ++ mkB wIn ++ mkB r.inn ++ mkB wMid ++ mkB r.out ++ mkB (wStat ++ wCall) ++ mkB r.out ++ mkB wCaller ++ mkB (Lib.itoa r.id) ++ mkB (wEnd ++ [10, 10]) = _
  unfold flatT mlL
  simp only [← mkB_ap]
  congr 1
  simp
theorem line15 (acc : List UInt8) (r : Rw) : mkB acc ++ (⟨#[9, 99, 97, 115, 101, 32]⟩ : ByteArray) ++ mkB (Lib.itoa r.id) ++ (⟨#[58, 10, 9, 9, 114, 101, 116, 117, 114, 110, 32, 104, 46]⟩ : ByteArray) ++ mkB r.sv ++ (⟨#[95]⟩ : ByteArray) ++ mkB r.mt ++ (⟨#[40, 105, 110, 46, 40]⟩ : ByteArray) ++ mkB r.inn ++ (⟨#[41, 41, 10]⟩ : ByteArray) = mkB (acc ++ (flatT [c1L r] ++ flatT [c2L r])) := by
  show mkB acc ++ mkB wCase ++ mkB (Lib.itoa r.id) ++ mkB (wColon ++ 10 :: wRet) ++ mkB r.sv ++ mkB wUnder ++ mkB r.mt ++ mkB wInDot ++ mkB r.inn ++ mkB (wClose ++ [10]) = _
  unfold flatT c1L c2L
  simp only [← mkB_ap]
  congr 1
  simp
set_option maxHeartbeats 32000000 in
set_option maxRecDepth 20000 in
theorem textR_any (ra : Option Addr) (n rc : Nat) (xs : List Rw) (w : World) (hP : Pow w) (hn : xs.length = n) (hn2 : n ≤ 1000000) (hf : ∀ r ∈ xs, FitRw r) (hH : RowsIn w (fun b => b < w.heap.size) 5 rrow (.slice ra n rc) xs) :
    Calls Tryz.prog 22 #[.slice ra n rc] w fun e w' => e = .returned (.string (mkB (textT none xs))) ∧ Below w.heap.size w w' := by
  have HP := Lib.hid hP
  have HN := Lib.hid hn
  have HF := Lib.hid hf
  have HH := Lib.hid hH
  have hTl := text_lenN xs hf
  rw [hn] at hTl
  have HTP := Lib.hid (text_partsN xs)
  have HTL := Lib.hid (tail_parts xs)
  obtain ⟨T, hT⟩ : ∃ T, textT none xs = T := ⟨_, rfl⟩
  rw [hT] at hTl HTP ⊢
  clear hT hP hn hf hH
  obtain ⟨B0, hB0⟩ : ∃ b, b = 14000000 * n + 1000 := ⟨_, rfl⟩
  have hB1 : B0 ≤ 20000000000000 := by omega
  rw [← hB0] at hTl
  have HB0 := Lib.hid hB0
  clear hB0
  have epack : (⟨#[112, 97, 99, 107, 97, 103, 101, 32, 115, 116, 117, 98, 115, 10, 10]⟩ : ByteArray) = mkB (flatT [wPack, []]) := rfl
  go_enter Tryz.func22, Tryz.ntmps22
  go_wp2_with fail
  go_loopw [3, 10] (fun u i wr => ∃ (k : Nat) (p : Option (List UInt8)) (acc : List UInt8), k ≤ n ∧ i = .int .i64 (k : Int) ∧ u = .string (mkB acc) ∧ T = acc ++ (flatT (headL p (xs.drop k)) ++ tailT xs) ∧ ((k = 0 ∧ p = none) ∨ ∃ r, 0 < k ∧ xs[k - 1]? = some r ∧ p = some r.sv) ∧ Below w.heap.size w wr) (fun _ i _ => n - (intOf i).toNat)
  case atStart => exact ⟨0, none, flatT [wPack, []], Nat.zero_le _, rfl, rfl, HTP.out, .inl ⟨rfl, rfl⟩, Below.refl _ _⟩
  case round =>
    generalize wr = w3 at *
    obtain ⟨k, p, acc, hk, rfl, rfl, hT, hp, hB⟩ := hrel
    have HTK := Lib.hid hT
    have HPK := Lib.hid hp
    have HBw3 := Lib.hid hB
    have hsw3 := hB.size
    have hacc : acc.length ≤ B0 := by
      have := congrArg List.length hT
      simp only [List.length_append] at this
      omega
    clear hT hB hp HTP epack
    by_cases hkn : k < n
    · obtain ⟨r, hr⟩ : ∃ r, xs[k]? = some r := ⟨_, List.getElem?_eq_getElem (by rw [HN.out]; exact hkn)⟩
      have HFR := HF.out r (List.mem_of_getElem? hr)
      have hml := ml_len r HFR
      have hty := ty_len r HFR
      have hil := Lib.itoa_length_le r.id HFR.1.1 HFR.1.2
      have HFRh := Lib.hid HFR
      obtain ⟨_, f1, f2, f3, f4⟩ := HFR
      obtain ⟨g, o, c, hsl, hg, hcells⟩ := rw_cells HH.out hr
      have HD : Hid (xs.drop k = r :: xs.drop (k + 1)) := by
        refine (?_ : _ = _)
        obtain ⟨h1, h2⟩ := List.getElem?_eq_some_iff.1 hr
        rw [List.drop_eq_getElem_cons h1, h2]
      have HR := Lib.hid hr
      have hra : ra = some ⟨g, o, none⟩ := (Value.slice.inj hsl).1
      subst hra
      obtain ⟨e0, e1, e2, e3, e4⟩ := hcells w3 (HBw3.out.block g hg)
      have hk0 : (0 : Int) ≤ (k : Int) := by omega
      have hk1 : (k : Int) < (n : Int) := by omega
      have hwk : IntKind.i64.wrap ((k : Int) + 1) = (k : Int) + 1 := by rw [IntKind.wrap_i64]; omega
      have hbY : Below w3.heap.size w3 (w3.alloc (.cells #[.int .i64 r.id, .string (mkB r.sv), .string (mkB r.mt), .string (mkB r.inn), .string (mkB r.out)] 62)) := (Below.refl _ _).alloc (Nat.le_refl _) _
      have hY : (w3.alloc (.cells #[.int .i64 r.id, .string (mkB r.sv), .string (mkB r.mt), .string (mkB r.inn), .string (mkB r.out)] 62)).heap[w3.heap.size]? = some (.cells #[.int .i64 r.id, .string (mkB r.sv), .string (mkB r.mt), .string (mkB r.inn), .string (mkB r.out)] 62 (0, 0)) := alloc_heap_new _ _
      clear hr hsl hcells
      go_upto_region 6 with fail
      generalize (w3.alloc (.cells #[.int .i64 r.id, .string (mkB r.sv), .string (mkB r.mt), .string (mkB r.inn), .string (mkB r.out)] 62)) = Y at *
      have HYY := Lib.hid hY
      have HBY := Lib.hid (HBw3.out.trans (hbY.mono hsw3))
      have hltY := blk_lt hY
      have hsY := hbY.size
      have y1 := cell_at hY 1 rfl
      clear hY hbY e0 e1 e2 e3 e4
      by_cases hsame : p = some r.sv
      · obtain ⟨r', hk00, hr', hpr⟩ : ∃ r', 0 < k ∧ xs[k - 1]? = some r' ∧ p = some r'.sv := by
          rcases HPK.out with ⟨_, h⟩ | h
          · rw [h] at hsame; cases hsame
          · exact h
        have hsv : r'.sv = r.sv := by rw [hpr] at hsame; exact Option.some.inj hsame
        have HTX : Hid (T = (acc ++ flatT [mlL r, []]) ++ (flatT (headL (some r.sv) (xs.drop (k + 1))) ++ tailT xs)) := by
          refine (?_ : _ = _)
          conv => lhs; rw [HTK.out, HD.out, head_stepP, if_pos hsame]
          simp only [List.append_assoc, List.nil_append]
        have hk0b : ((k : Int) == 0) = false := by simp; omega
        have hwk1 : IntKind.i64.wrap ((k : Int) - 1) = (k : Int) - 1 := by rw [IntKind.wrap_i64]; omega
        have hkm0 : (0 : Int) ≤ (k : Int) - 1 := by omega
        have hkm1 : (k : Int) - 1 < (n : Int) := by omega
        have htn : ((k : Int) - 1).toNat = k - 1 := by omega
        obtain ⟨g2, o2, c2, hsl2, hg2, hcells2⟩ := rw_cells HH.out hr'
        obtain ⟨hg22, ho22⟩ : g = g2 ∧ o = o2 := by
          have := (Value.slice.inj hsl2).1
          simp only [Option.some.injEq, Addr.mk.injEq, and_true] at this
          exact this
        subst hg22 ho22
        have p1 := (hcells2 Y (HBY.out.block g hg)).2.1
        rw [hsv] at p1
        have hcmp1 : ((mkB r.sv).toList == (mkB r.sv).toList) = true := by simp
        clear hsame hpr hsl2 hcells2 hsv hr'
        go_quiet (fail)
        have hbn : Below Y.heap.size Y (Y.drewN nq) := ⟨rfl, rfl, rfl, Nat.le_refl _, fun _ _ => rfl⟩
        generalize Y.drewN nq = Z at *
        have HYZ := Lib.hid ((hbn.block _ hltY).trans HYY.out)
        have HBZ := Lib.hid (HBY.out.trans (hbn.mono (by omega)))
        have hltZ := blk_lt HYZ.out
        have q0 : (mkB acc).size ≤ B0 := (by rw [mkB_sz]; omega)
        have s1 := sumZ (mkB acc) ((⟨#[102, 117, 110, 99, 32, 40, 99, 32]⟩ : ByteArray)) (by rw [t_func]; omega)
        have q1 : (mkB acc ++ (⟨#[102, 117, 110, 99, 32, 40, 99, 32]⟩ : ByteArray)).size ≤ B0 + 8 := by rw [ByteArray.size_append, t_func]; omega
        have s2 := sumZ (mkB acc ++ (⟨#[102, 117, 110, 99, 32, 40, 99, 32]⟩ : ByteArray)) (mkB r.sv) (by rw [mkB_sz]; omega)
        have q2 : (mkB acc ++ (⟨#[102, 117, 110, 99, 32, 40, 99, 32]⟩ : ByteArray) ++ mkB r.sv).size ≤ B0 + 1000008 := by rw [ByteArray.size_append, mkB_sz]; omega
        have s3 := sumZ (mkB acc ++ (⟨#[102, 117, 110, 99, 32, 40, 99, 32]⟩ : ByteArray) ++ mkB r.sv) ((⟨#[67, 108, 105, 101, 110, 116, 41, 32]⟩ : ByteArray)) (by rw [t_client]; omega)
        have q3 : (mkB acc ++ (⟨#[102, 117, 110, 99, 32, 40, 99, 32]⟩ : ByteArray) ++ mkB r.sv ++ (⟨#[67, 108, 105, 101, 110, 116, 41, 32]⟩ : ByteArray)).size ≤ B0 + 1000016 := by rw [ByteArray.size_append, t_client]; omega
        have s4 := sumZ (mkB acc ++ (⟨#[102, 117, 110, 99, 32, 40, 99, 32]⟩ : ByteArray) ++ mkB r.sv ++ (⟨#[67, 108, 105, 101, 110, 116, 41, 32]⟩ : ByteArray)) (mkB r.mt) (by rw [mkB_sz]; omega)
        have q4 : (mkB acc ++ (⟨#[102, 117, 110, 99, 32, 40, 99, 32]⟩ : ByteArray) ++ mkB r.sv ++ (⟨#[67, 108, 105, 101, 110, 116, 41, 32]⟩ : ByteArray) ++ mkB r.mt).size ≤ B0 + 2000016 := by rw [ByteArray.size_append, mkB_sz]; omega
        have s5 := sumZ (mkB acc ++ (⟨#[102, 117, 110, 99, 32, 40, 99, 32]⟩ : ByteArray) ++ mkB r.sv ++ (⟨#[67, 108, 105, 101, 110, 116, 41, 32]⟩ : ByteArray) ++ mkB r.mt) ((⟨#[40, 105, 110, 32]⟩ : ByteArray)) (by rw [t_in]; omega)
        have q5 : (mkB acc ++ (⟨#[102, 117, 110, 99, 32, 40, 99, 32]⟩ : ByteArray) ++ mkB r.sv ++ (⟨#[67, 108, 105, 101, 110, 116, 41, 32]⟩ : ByteArray) ++ mkB r.mt ++ (⟨#[40, 105, 110, 32]⟩ : ByteArray)).size ≤ B0 + 2000020 := by rw [ByteArray.size_append, t_in]; omega
        have s6 := sumZ (mkB acc ++ (⟨#[102, 117, 110, 99, 32, 40, 99, 32]⟩ : ByteArray) ++ mkB r.sv ++ (⟨#[67, 108, 105, 101, 110, 116, 41, 32]⟩ : ByteArray) ++ mkB r.mt ++ (⟨#[40, 105, 110, 32]⟩ : ByteArray)) (mkB r.inn) (by rw [mkB_sz]; omega)
        have q6 : (mkB acc ++ (⟨#[102, 117, 110, 99, 32, 40, 99, 32]⟩ : ByteArray) ++ mkB r.sv ++ (⟨#[67, 108, 105, 101, 110, 116, 41, 32]⟩ : ByteArray) ++ mkB r.mt ++ (⟨#[40, 105, 110, 32]⟩ : ByteArray) ++ mkB r.inn).size ≤ B0 + 3000020 := by rw [ByteArray.size_append, mkB_sz]; omega
        have s7 := sumZ (mkB acc ++ (⟨#[102, 117, 110, 99, 32, 40, 99, 32]⟩ : ByteArray) ++ mkB r.sv ++ (⟨#[67, 108, 105, 101, 110, 116, 41, 32]⟩ : ByteArray) ++ mkB r.mt ++ (⟨#[40, 105, 110, 32]⟩ : ByteArray) ++ mkB r.inn) ((⟨#[41, 32, 40]⟩ : ByteArray)) (by rw [t_mid]; omega)
        have q7 : (mkB acc ++ (⟨#[102, 117, 110, 99, 32, 40, 99, 32]⟩ : ByteArray) ++ mkB r.sv ++ (⟨#[67, 108, 105, 101, 110, 116, 41, 32]⟩ : ByteArray) ++ mkB r.mt ++ (⟨#[40, 105, 110, 32]⟩ : ByteArray) ++ mkB r.inn ++ (⟨#[41, 32, 40]⟩ : ByteArray)).size ≤ B0 + 3000023 := by rw [ByteArray.size_append, t_mid]; omega
        have s8 := sumZ (mkB acc ++ (⟨#[102, 117, 110, 99, 32, 40, 99, 32]⟩ : ByteArray) ++ mkB r.sv ++ (⟨#[67, 108, 105, 101, 110, 116, 41, 32]⟩ : ByteArray) ++ mkB r.mt ++ (⟨#[40, 105, 110, 32]⟩ : ByteArray) ++ mkB r.inn ++ (⟨#[41, 32, 40]⟩ : ByteArray)) (mkB r.out) (by rw [mkB_sz]; omega)
        have q8 : (mkB acc ++ (⟨#[102, 117, 110, 99, 32, 40, 99, 32]⟩ : ByteArray) ++ mkB r.sv ++ (⟨#[67, 108, 105, 101, 110, 116, 41, 32]⟩ : ByteArray) ++ mkB r.mt ++ (⟨#[40, 105, 110, 32]⟩ : ByteArray) ++ mkB r.inn ++ (⟨#[41, 32, 40]⟩ : ByteArray) ++ mkB r.out).size ≤ B0 + 4000023 := by rw [ByteArray.size_append, mkB_sz]; omega
        have s9 := sumZ (mkB acc ++ (⟨#[102, 117, 110, 99, 32, 40, 99, 32]⟩ : ByteArray) ++ mkB r.sv ++ (⟨#[67, 108, 105, 101, 110, 116, 41, 32]⟩ : ByteArray) ++ mkB r.mt ++ (⟨#[40, 105, 110, 32]⟩ : ByteArray) ++ mkB r.inn ++ (⟨#[41, 32, 40]⟩ : ByteArray) ++ mkB r.out) ((⟨#[44, 32, 83, 116, 97, 116, 117, 115, 41, 32, 123, 32, 114, 101, 116, 117, 114, 110, 32, 99, 97, 108, 108, 91]⟩ : ByteArray)) (by rw [t_stat]; omega)
        have q9 : (mkB acc ++ (⟨#[102, 117, 110, 99, 32, 40, 99, 32]⟩ : ByteArray) ++ mkB r.sv ++ (⟨#[67, 108, 105, 101, 110, 116, 41, 32]⟩ : ByteArray) ++ mkB r.mt ++ (⟨#[40, 105, 110, 32]⟩ : ByteArray) ++ mkB r.inn ++ (⟨#[41, 32, 40]⟩ : ByteArray) ++ mkB r.out ++ (⟨#[44, 32, 83, 116, 97, 116, 117, 115, 41, 32, 123, 32, 114, 101, 116, 117, 114, 110, 32, 99, 97, 108, 108, 91]⟩ : ByteArray)).size ≤ B0 + 4000047 := by rw [ByteArray.size_append, t_stat]; omega
        have s10 := sumZ (mkB acc ++ (⟨#[102, 117, 110, 99, 32, 40, 99, 32]⟩ : ByteArray) ++ mkB r.sv ++ (⟨#[67, 108, 105, 101, 110, 116, 41, 32]⟩ : ByteArray) ++ mkB r.mt ++ (⟨#[40, 105, 110, 32]⟩ : ByteArray) ++ mkB r.inn ++ (⟨#[41, 32, 40]⟩ : ByteArray) ++ mkB r.out ++ (⟨#[44, 32, 83, 116, 97, 116, 117, 115, 41, 32, 123, 32, 114, 101, 116, 117, 114, 110, 32, 99, 97, 108, 108, 91]⟩ : ByteArray)) (mkB r.out) (by rw [mkB_sz]; omega)
        have q10 : (mkB acc ++ (⟨#[102, 117, 110, 99, 32, 40, 99, 32]⟩ : ByteArray) ++ mkB r.sv ++ (⟨#[67, 108, 105, 101, 110, 116, 41, 32]⟩ : ByteArray) ++ mkB r.mt ++ (⟨#[40, 105, 110, 32]⟩ : ByteArray) ++ mkB r.inn ++ (⟨#[41, 32, 40]⟩ : ByteArray) ++ mkB r.out ++ (⟨#[44, 32, 83, 116, 97, 116, 117, 115, 41, 32, 123, 32, 114, 101, 116, 117, 114, 110, 32, 99, 97, 108, 108, 91]⟩ : ByteArray) ++ mkB r.out).size ≤ B0 + 5000047 := by rw [ByteArray.size_append, mkB_sz]; omega
        have s11 := sumZ (mkB acc ++ (⟨#[102, 117, 110, 99, 32, 40, 99, 32]⟩ : ByteArray) ++ mkB r.sv ++ (⟨#[67, 108, 105, 101, 110, 116, 41, 32]⟩ : ByteArray) ++ mkB r.mt ++ (⟨#[40, 105, 110, 32]⟩ : ByteArray) ++ mkB r.inn ++ (⟨#[41, 32, 40]⟩ : ByteArray) ++ mkB r.out ++ (⟨#[44, 32, 83, 116, 97, 116, 117, 115, 41, 32, 123, 32, 114, 101, 116, 117, 114, 110, 32, 99, 97, 108, 108, 91]⟩ : ByteArray) ++ mkB r.out) ((⟨#[93, 40, 99, 46, 67, 97, 108, 108, 101, 114, 44, 32]⟩ : ByteArray)) (by rw [t_caller]; omega)
        have q11 : (mkB acc ++ (⟨#[102, 117, 110, 99, 32, 40, 99, 32]⟩ : ByteArray) ++ mkB r.sv ++ (⟨#[67, 108, 105, 101, 110, 116, 41, 32]⟩ : ByteArray) ++ mkB r.mt ++ (⟨#[40, 105, 110, 32]⟩ : ByteArray) ++ mkB r.inn ++ (⟨#[41, 32, 40]⟩ : ByteArray) ++ mkB r.out ++ (⟨#[44, 32, 83, 116, 97, 116, 117, 115, 41, 32, 123, 32, 114, 101, 116, 117, 114, 110, 32, 99, 97, 108, 108, 91]⟩ : ByteArray) ++ mkB r.out ++ (⟨#[93, 40, 99, 46, 67, 97, 108, 108, 101, 114, 44, 32]⟩ : ByteArray)).size ≤ B0 + 5000059 := by rw [ByteArray.size_append, t_caller]; omega
        have s12 := sumZ (mkB acc ++ (⟨#[102, 117, 110, 99, 32, 40, 99, 32]⟩ : ByteArray) ++ mkB r.sv ++ (⟨#[67, 108, 105, 101, 110, 116, 41, 32]⟩ : ByteArray) ++ mkB r.mt ++ (⟨#[40, 105, 110, 32]⟩ : ByteArray) ++ mkB r.inn ++ (⟨#[41, 32, 40]⟩ : ByteArray) ++ mkB r.out ++ (⟨#[44, 32, 83, 116, 97, 116, 117, 115, 41, 32, 123, 32, 114, 101, 116, 117, 114, 110, 32, 99, 97, 108, 108, 91]⟩ : ByteArray) ++ mkB r.out ++ (⟨#[93, 40, 99, 46, 67, 97, 108, 108, 101, 114, 44, 32]⟩ : ByteArray)) (mkB (Lib.itoa r.id)) (by rw [mkB_sz]; omega)
        have q12 : (mkB acc ++ (⟨#[102, 117, 110, 99, 32, 40, 99, 32]⟩ : ByteArray) ++ mkB r.sv ++ (⟨#[67, 108, 105, 101, 110, 116, 41, 32]⟩ : ByteArray) ++ mkB r.mt ++ (⟨#[40, 105, 110, 32]⟩ : ByteArray) ++ mkB r.inn ++ (⟨#[41, 32, 40]⟩ : ByteArray) ++ mkB r.out ++ (⟨#[44, 32, 83, 116, 97, 116, 117, 115, 41, 32, 123, 32, 114, 101, 116, 117, 114, 110, 32, 99, 97, 108, 108, 91]⟩ : ByteArray) ++ mkB r.out ++ (⟨#[93, 40, 99, 46, 67, 97, 108, 108, 101, 114, 44, 32]⟩ : ByteArray) ++ mkB (Lib.itoa r.id)).size ≤ B0 + 5000080 := by rw [ByteArray.size_append, mkB_sz]; omega
        have s13 := sumZ (mkB acc ++ (⟨#[102, 117, 110, 99, 32, 40, 99, 32]⟩ : ByteArray) ++ mkB r.sv ++ (⟨#[67, 108, 105, 101, 110, 116, 41, 32]⟩ : ByteArray) ++ mkB r.mt ++ (⟨#[40, 105, 110, 32]⟩ : ByteArray) ++ mkB r.inn ++ (⟨#[41, 32, 40]⟩ : ByteArray) ++ mkB r.out ++ (⟨#[44, 32, 83, 116, 97, 116, 117, 115, 41, 32, 123, 32, 114, 101, 116, 117, 114, 110, 32, 99, 97, 108, 108, 91]⟩ : ByteArray) ++ mkB r.out ++ (⟨#[93, 40, 99, 46, 67, 97, 108, 108, 101, 114, 44, 32]⟩ : ByteArray) ++ mkB (Lib.itoa r.id)) ((⟨#[44, 32, 105, 110, 41, 32, 125, 10, 10]⟩ : ByteArray)) (by rw [t_end]; omega)
        have q13 : (mkB acc ++ (⟨#[102, 117, 110, 99, 32, 40, 99, 32]⟩ : ByteArray) ++ mkB r.sv ++ (⟨#[67, 108, 105, 101, 110, 116, 41, 32]⟩ : ByteArray) ++ mkB r.mt ++ (⟨#[40, 105, 110, 32]⟩ : ByteArray) ++ mkB r.inn ++ (⟨#[41, 32, 40]⟩ : ByteArray) ++ mkB r.out ++ (⟨#[44, 32, 83, 116, 97, 116, 117, 115, 41, 32, 123, 32, 114, 101, 116, 117, 114, 110, 32, 99, 97, 108, 108, 91]⟩ : ByteArray) ++ mkB r.out ++ (⟨#[93, 40, 99, 46, 67, 97, 108, 108, 101, 114, 44, 32]⟩ : ByteArray) ++ mkB (Lib.itoa r.id) ++ (⟨#[44, 32, 105, 110, 41, 32, 125, 10, 10]⟩ : ByteArray)).size ≤ B0 + 5000089 := by rw [ByteArray.size_append, t_end]; omega
        clear q0 q1 q2 q3 q4 q5 q6 q7 q8 q9 q10 q11 q12 q13
        have HL8 := Lib.hid (line8 acc r)
        skip
        go_upto_region 8 with fail
        have hI := itoaS r.id HFRh.out.1.1 HFRh.out.1.2 Z.drew ((HP.out.below HBZ.out).below (Below.refl _ Z).drew)
        have hc0 : ∀ W : World, W.heap[w3.heap.size]? = some (.cells #[.int .i64 r.id, .string (mkB r.sv), .string (mkB r.mt), .string (mkB r.inn), .string (mkB r.out)] 62 (0, 0)) → W.cell? ⟨w3.heap.size, 0, none⟩ = some (.int .i64 r.id) := fun W h => cell_at h 0 rfl
        have hc1 : ∀ W : World, W.heap[w3.heap.size]? = some (.cells #[.int .i64 r.id, .string (mkB r.sv), .string (mkB r.mt), .string (mkB r.inn), .string (mkB r.out)] 62 (0, 0)) → W.cell? ⟨w3.heap.size, 1, none⟩ = some (.string (mkB r.sv)) := fun W h => cell_at h 1 rfl
        have hc2 : ∀ W : World, W.heap[w3.heap.size]? = some (.cells #[.int .i64 r.id, .string (mkB r.sv), .string (mkB r.mt), .string (mkB r.inn), .string (mkB r.out)] 62 (0, 0)) → W.cell? ⟨w3.heap.size, 2, none⟩ = some (.string (mkB r.mt)) := fun W h => cell_at h 2 rfl
        have hc3 : ∀ W : World, W.heap[w3.heap.size]? = some (.cells #[.int .i64 r.id, .string (mkB r.sv), .string (mkB r.mt), .string (mkB r.inn), .string (mkB r.out)] 62 (0, 0)) → W.cell? ⟨w3.heap.size, 3, none⟩ = some (.string (mkB r.inn)) := fun W h => cell_at h 3 rfl
        have hc4 : ∀ W : World, W.heap[w3.heap.size]? = some (.cells #[.int .i64 r.id, .string (mkB r.sv), .string (mkB r.mt), .string (mkB r.inn), .string (mkB r.out)] 62 (0, 0)) → W.cell? ⟨w3.heap.size, 4, none⟩ = some (.string (mkB r.out)) := fun W h => cell_at h 4 rfl
        have hYX := HYZ.out
        go_region_held_law (fun W' => W'.heap[w3.heap.size]? = some (.cells #[.int .i64 r.id, .string (mkB r.sv), .string (mkB r.mt), .string (mkB r.inn), .string (mkB r.out)] 62 (0, 0))) (first | exact hYX | exact hV5 | assumption) (first
          | (go_at_call 36; refine hI.mono ?_; rintro e W5 ⟨rfl, hw5⟩; have hb5 : Below Z.heap.size Z W5 := (Below.refl _ Z).drew.trans hw5; clear hw5; have hV5 := (hb5.block _ hltZ).trans hYX))
        all_goals
          have HB5 := Lib.hid (HBZ.out.trans (hb5.mono HBZ.out.size))
          rw [HL8.out]
          clear hV5 hb5 hI
          go_wp2_with fail
          go_roundw
          case rel => exact ⟨k + 1, some r.sv, _, by omega, by go_num, rfl, HTX.out, .inr ⟨r, by omega, HR.out, rfl⟩, HB5.out⟩
          case measure => simp [intOf]; omega
      · have HTX : Hid (T = ((acc ++ flatT [tyL r.sv, []]) ++ flatT [mlL r, []]) ++ (flatT (headL (some r.sv) (xs.drop (k + 1))) ++ tailT xs)) := by
          refine (?_ : _ = _)
          conv => lhs; rw [HTK.out, HD.out, head_stepP, if_neg hsame]
          simp only [List.append_assoc]
        have hacc2 : (acc ++ flatT [tyL r.sv, []]).length ≤ B0 := by
          have := congrArg List.length HTX.out
          simp only [List.length_append] at this ⊢
          omega
        have z1 := sumZ (mkB acc) (⟨#[116, 121, 112, 101, 32]⟩ : ByteArray) (by rw [mkB_sz, t_type]; omega)
        have z2 := sumZ (mkB acc ++ (⟨#[116, 121, 112, 101, 32]⟩ : ByteArray)) (mkB r.sv) (by rw [ByteArray.size_append, mkB_sz, mkB_sz, t_type]; omega)
        have z3 := sumZ (mkB acc ++ (⟨#[116, 121, 112, 101, 32]⟩ : ByteArray) ++ mkB r.sv) (⟨#[67, 108, 105, 101, 110, 116, 32, 115, 116, 114, 117, 99, 116, 123, 32, 67, 97, 108, 108, 101, 114, 32, 125, 10, 10]⟩ : ByteArray) (by rw [ByteArray.size_append, ByteArray.size_append, mkB_sz, mkB_sz, t_type, t_struct]; omega)
        have HZ3 : Hid (mkB acc ++ (⟨#[116, 121, 112, 101, 32]⟩ : ByteArray) ++ mkB r.sv ++ (⟨#[67, 108, 105, 101, 110, 116, 32, 115, 116, 114, 117, 99, 116, 123, 32, 67, 97, 108, 108, 101, 114, 32, 125, 10, 10]⟩ : ByteArray) = mkB (acc ++ flatT [tyL r.sv, []])) := by
          refine (?_ : _ = _)
          show mkB acc ++ mkB wType ++ mkB r.sv ++ mkB (wStruct ++ [10, 10]) = _
          unfold flatT tyL
          simp only [← mkB_ap]
          congr 1
          simp
        by_cases hk00 : k = 0
        · have hk0b : ((k : Int) == 0) = true := by simp [hk00]
          have HK0 := Lib.hid hk00
          clear hsame hk00
          go_quiet (fail)
          have hbn : Below Y.heap.size Y (Y.drewN nq) := ⟨rfl, rfl, rfl, Nat.le_refl _, fun _ _ => rfl⟩
          generalize Y.drewN nq = Z at *
          have HYZ := Lib.hid ((hbn.block _ hltY).trans HYY.out)
          have HBZ := Lib.hid (HBY.out.trans (hbn.mono (by omega)))
          have hltZ := blk_lt HYZ.out
          have y1z := cell_at HYZ.out 1 rfl
          go_upto_region 8 with fail
          rw [HZ3.out]
          clear z1 z2 z3 y1z y1 hk0b
          generalize acc ++ flatT [tyL r.sv, []] = acc2 at *
          have q0 : (mkB acc2).size ≤ B0 := (by rw [mkB_sz]; omega)
          have s1 := sumZ (mkB acc2) ((⟨#[102, 117, 110, 99, 32, 40, 99, 32]⟩ : ByteArray)) (by rw [t_func]; omega)
          have q1 : (mkB acc2 ++ (⟨#[102, 117, 110, 99, 32, 40, 99, 32]⟩ : ByteArray)).size ≤ B0 + 8 := by rw [ByteArray.size_append, t_func]; omega
          have s2 := sumZ (mkB acc2 ++ (⟨#[102, 117, 110, 99, 32, 40, 99, 32]⟩ : ByteArray)) (mkB r.sv) (by rw [mkB_sz]; omega)
          have q2 : (mkB acc2 ++ (⟨#[102, 117, 110, 99, 32, 40, 99, 32]⟩ : ByteArray) ++ mkB r.sv).size ≤ B0 + 1000008 := by rw [ByteArray.size_append, mkB_sz]; omega
          have s3 := sumZ (mkB acc2 ++ (⟨#[102, 117, 110, 99, 32, 40, 99, 32]⟩ : ByteArray) ++ mkB r.sv) ((⟨#[67, 108, 105, 101, 110, 116, 41, 32]⟩ : ByteArray)) (by rw [t_client]; omega)
          have q3 : (mkB acc2 ++ (⟨#[102, 117, 110, 99, 32, 40, 99, 32]⟩ : ByteArray) ++ mkB r.sv ++ (⟨#[67, 108, 105, 101, 110, 116, 41, 32]⟩ : ByteArray)).size ≤ B0 + 1000016 := by rw [ByteArray.size_append, t_client]; omega
          have s4 := sumZ (mkB acc2 ++ (⟨#[102, 117, 110, 99, 32, 40, 99, 32]⟩ : ByteArray) ++ mkB r.sv ++ (⟨#[67, 108, 105, 101, 110, 116, 41, 32]⟩ : ByteArray)) (mkB r.mt) (by rw [mkB_sz]; omega)
          have q4 : (mkB acc2 ++ (⟨#[102, 117, 110, 99, 32, 40, 99, 32]⟩ : ByteArray) ++ mkB r.sv ++ (⟨#[67, 108, 105, 101, 110, 116, 41, 32]⟩ : ByteArray) ++ mkB r.mt).size ≤ B0 + 2000016 := by rw [ByteArray.size_append, mkB_sz]; omega
          have s5 := sumZ (mkB acc2 ++ (⟨#[102, 117, 110, 99, 32, 40, 99, 32]⟩ : ByteArray) ++ mkB r.sv ++ (⟨#[67, 108, 105, 101, 110, 116, 41, 32]⟩ : ByteArray) ++ mkB r.mt) ((⟨#[40, 105, 110, 32]⟩ : ByteArray)) (by rw [t_in]; omega)
          have q5 : (mkB acc2 ++ (⟨#[102, 117, 110, 99, 32, 40, 99, 32]⟩ : ByteArray) ++ mkB r.sv ++ (⟨#[67, 108, 105, 101, 110, 116, 41, 32]⟩ : ByteArray) ++ mkB r.mt ++ (⟨#[40, 105, 110, 32]⟩ : ByteArray)).size ≤ B0 + 2000020 := by rw [ByteArray.size_append, t_in]; omega
          have s6 := sumZ (mkB acc2 ++ (⟨#[102, 117, 110, 99, 32, 40, 99, 32]⟩ : ByteArray) ++ mkB r.sv ++ (⟨#[67, 108, 105, 101, 110, 116, 41, 32]⟩ : ByteArray) ++ mkB r.mt ++ (⟨#[40, 105, 110, 32]⟩ : ByteArray)) (mkB r.inn) (by rw [mkB_sz]; omega)
          have q6 : (mkB acc2 ++ (⟨#[102, 117, 110, 99, 32, 40, 99, 32]⟩ : ByteArray) ++ mkB r.sv ++ (⟨#[67, 108, 105, 101, 110, 116, 41, 32]⟩ : ByteArray) ++ mkB r.mt ++ (⟨#[40, 105, 110, 32]⟩ : ByteArray) ++ mkB r.inn).size ≤ B0 + 3000020 := by rw [ByteArray.size_append, mkB_sz]; omega
          have s7 := sumZ (mkB acc2 ++ (⟨#[102, 117, 110, 99, 32, 40, 99, 32]⟩ : ByteArray) ++ mkB r.sv ++ (⟨#[67, 108, 105, 101, 110, 116, 41, 32]⟩ : ByteArray) ++ mkB r.mt ++ (⟨#[40, 105, 110, 32]⟩ : ByteArray) ++ mkB r.inn) ((⟨#[41, 32, 40]⟩ : ByteArray)) (by rw [t_mid]; omega)
          have q7 : (mkB acc2 ++ (⟨#[102, 117, 110, 99, 32, 40, 99, 32]⟩ : ByteArray) ++ mkB r.sv ++ (⟨#[67, 108, 105, 101, 110, 116, 41, 32]⟩ : ByteArray) ++ mkB r.mt ++ (⟨#[40, 105, 110, 32]⟩ : ByteArray) ++ mkB r.inn ++ (⟨#[41, 32, 40]⟩ : ByteArray)).size ≤ B0 + 3000023 := by rw [ByteArray.size_append, t_mid]; omega
          have s8 := sumZ (mkB acc2 ++ (⟨#[102, 117, 110, 99, 32, 40, 99, 32]⟩ : ByteArray) ++ mkB r.sv ++ (⟨#[67, 108, 105, 101, 110, 116, 41, 32]⟩ : ByteArray) ++ mkB r.mt ++ (⟨#[40, 105, 110, 32]⟩ : ByteArray) ++ mkB r.inn ++ (⟨#[41, 32, 40]⟩ : ByteArray)) (mkB r.out) (by rw [mkB_sz]; omega)
          have q8 : (mkB acc2 ++ (⟨#[102, 117, 110, 99, 32, 40, 99, 32]⟩ : ByteArray) ++ mkB r.sv ++ (⟨#[67, 108, 105, 101, 110, 116, 41, 32]⟩ : ByteArray) ++ mkB r.mt ++ (⟨#[40, 105, 110, 32]⟩ : ByteArray) ++ mkB r.inn ++ (⟨#[41, 32, 40]⟩ : ByteArray) ++ mkB r.out).size ≤ B0 + 4000023 := by rw [ByteArray.size_append, mkB_sz]; omega
          have s9 := sumZ (mkB acc2 ++ (⟨#[102, 117, 110, 99, 32, 40, 99, 32]⟩ : ByteArray) ++ mkB r.sv ++ (⟨#[67, 108, 105, 101, 110, 116, 41, 32]⟩ : ByteArray) ++ mkB r.mt ++ (⟨#[40, 105, 110, 32]⟩ : ByteArray) ++ mkB r.inn ++ (⟨#[41, 32, 40]⟩ : ByteArray) ++ mkB r.out) ((⟨#[44, 32, 83, 116, 97, 116, 117, 115, 41, 32, 123, 32, 114, 101, 116, 117, 114, 110, 32, 99, 97, 108, 108, 91]⟩ : ByteArray)) (by rw [t_stat]; omega)
          have q9 : (mkB acc2 ++ (⟨#[102, 117, 110, 99, 32, 40, 99, 32]⟩ : ByteArray) ++ mkB r.sv ++ (⟨#[67, 108, 105, 101, 110, 116, 41, 32]⟩ : ByteArray) ++ mkB r.mt ++ (⟨#[40, 105, 110, 32]⟩ : ByteArray) ++ mkB r.inn ++ (⟨#[41, 32, 40]⟩ : ByteArray) ++ mkB r.out ++ (⟨#[44, 32, 83, 116, 97, 116, 117, 115, 41, 32, 123, 32, 114, 101, 116, 117, 114, 110, 32, 99, 97, 108, 108, 91]⟩ : ByteArray)).size ≤ B0 + 4000047 := by rw [ByteArray.size_append, t_stat]; omega
          have s10 := sumZ (mkB acc2 ++ (⟨#[102, 117, 110, 99, 32, 40, 99, 32]⟩ : ByteArray) ++ mkB r.sv ++ (⟨#[67, 108, 105, 101, 110, 116, 41, 32]⟩ : ByteArray) ++ mkB r.mt ++ (⟨#[40, 105, 110, 32]⟩ : ByteArray) ++ mkB r.inn ++ (⟨#[41, 32, 40]⟩ : ByteArray) ++ mkB r.out ++ (⟨#[44, 32, 83, 116, 97, 116, 117, 115, 41, 32, 123, 32, 114, 101, 116, 117, 114, 110, 32, 99, 97, 108, 108, 91]⟩ : ByteArray)) (mkB r.out) (by rw [mkB_sz]; omega)
          have q10 : (mkB acc2 ++ (⟨#[102, 117, 110, 99, 32, 40, 99, 32]⟩ : ByteArray) ++ mkB r.sv ++ (⟨#[67, 108, 105, 101, 110, 116, 41, 32]⟩ : ByteArray) ++ mkB r.mt ++ (⟨#[40, 105, 110, 32]⟩ : ByteArray) ++ mkB r.inn ++ (⟨#[41, 32, 40]⟩ : ByteArray) ++ mkB r.out ++ (⟨#[44, 32, 83, 116, 97, 116, 117, 115, 41, 32, 123, 32, 114, 101, 116, 117, 114, 110, 32, 99, 97, 108, 108, 91]⟩ : ByteArray) ++ mkB r.out).size ≤ B0 + 5000047 := by rw [ByteArray.size_append, mkB_sz]; omega
          have s11 := sumZ (mkB acc2 ++ (⟨#[102, 117, 110, 99, 32, 40, 99, 32]⟩ : ByteArray) ++ mkB r.sv ++ (⟨#[67, 108, 105, 101, 110, 116, 41, 32]⟩ : ByteArray) ++ mkB r.mt ++ (⟨#[40, 105, 110, 32]⟩ : ByteArray) ++ mkB r.inn ++ (⟨#[41, 32, 40]⟩ : ByteArray) ++ mkB r.out ++ (⟨#[44, 32, 83, 116, 97, 116, 117, 115, 41, 32, 123, 32, 114, 101, 116, 117, 114, 110, 32, 99, 97, 108, 108, 91]⟩ : ByteArray) ++ mkB r.out) ((⟨#[93, 40, 99, 46, 67, 97, 108, 108, 101, 114, 44, 32]⟩ : ByteArray)) (by rw [t_caller]; omega)
          have q11 : (mkB acc2 ++ (⟨#[102, 117, 110, 99, 32, 40, 99, 32]⟩ : ByteArray) ++ mkB r.sv ++ (⟨#[67, 108, 105, 101, 110, 116, 41, 32]⟩ : ByteArray) ++ mkB r.mt ++ (⟨#[40, 105, 110, 32]⟩ : ByteArray) ++ mkB r.inn ++ (⟨#[41, 32, 40]⟩ : ByteArray) ++ mkB r.out ++ (⟨#[44, 32, 83, 116, 97, 116, 117, 115, 41, 32, 123, 32, 114, 101, 116, 117, 114, 110, 32, 99, 97, 108, 108, 91]⟩ : ByteArray) ++ mkB r.out ++ (⟨#[93, 40, 99, 46, 67, 97, 108, 108, 101, 114, 44, 32]⟩ : ByteArray)).size ≤ B0 + 5000059 := by rw [ByteArray.size_append, t_caller]; omega
          have s12 := sumZ (mkB acc2 ++ (⟨#[102, 117, 110, 99, 32, 40, 99, 32]⟩ : ByteArray) ++ mkB r.sv ++ (⟨#[67, 108, 105, 101, 110, 116, 41, 32]⟩ : ByteArray) ++ mkB r.mt ++ (⟨#[40, 105, 110, 32]⟩ : ByteArray) ++ mkB r.inn ++ (⟨#[41, 32, 40]⟩ : ByteArray) ++ mkB r.out ++ (⟨#[44, 32, 83, 116, 97, 116, 117, 115, 41, 32, 123, 32, 114, 101, 116, 117, 114, 110, 32, 99, 97, 108, 108, 91]⟩ : ByteArray) ++ mkB r.out ++ (⟨#[93, 40, 99, 46, 67, 97, 108, 108, 101, 114, 44, 32]⟩ : ByteArray)) (mkB (Lib.itoa r.id)) (by rw [mkB_sz]; omega)
          have q12 : (mkB acc2 ++ (⟨#[102, 117, 110, 99, 32, 40, 99, 32]⟩ : ByteArray) ++ mkB r.sv ++ (⟨#[67, 108, 105, 101, 110, 116, 41, 32]⟩ : ByteArray) ++ mkB r.mt ++ (⟨#[40, 105, 110, 32]⟩ : ByteArray) ++ mkB r.inn ++ (⟨#[41, 32, 40]⟩ : ByteArray) ++ mkB r.out ++ (⟨#[44, 32, 83, 116, 97, 116, 117, 115, 41, 32, 123, 32, 114, 101, 116, 117, 114, 110, 32, 99, 97, 108, 108, 91]⟩ : ByteArray) ++ mkB r.out ++ (⟨#[93, 40, 99, 46, 67, 97, 108, 108, 101, 114, 44, 32]⟩ : ByteArray) ++ mkB (Lib.itoa r.id)).size ≤ B0 + 5000080 := by rw [ByteArray.size_append, mkB_sz]; omega
          have s13 := sumZ (mkB acc2 ++ (⟨#[102, 117, 110, 99, 32, 40, 99, 32]⟩ : ByteArray) ++ mkB r.sv ++ (⟨#[67, 108, 105, 101, 110, 116, 41, 32]⟩ : ByteArray) ++ mkB r.mt ++ (⟨#[40, 105, 110, 32]⟩ : ByteArray) ++ mkB r.inn ++ (⟨#[41, 32, 40]⟩ : ByteArray) ++ mkB r.out ++ (⟨#[44, 32, 83, 116, 97, 116, 117, 115, 41, 32, 123, 32, 114, 101, 116, 117, 114, 110, 32, 99, 97, 108, 108, 91]⟩ : ByteArray) ++ mkB r.out ++ (⟨#[93, 40, 99, 46, 67, 97, 108, 108, 101, 114, 44, 32]⟩ : ByteArray) ++ mkB (Lib.itoa r.id)) ((⟨#[44, 32, 105, 110, 41, 32, 125, 10, 10]⟩ : ByteArray)) (by rw [t_end]; omega)
          have q13 : (mkB acc2 ++ (⟨#[102, 117, 110, 99, 32, 40, 99, 32]⟩ : ByteArray) ++ mkB r.sv ++ (⟨#[67, 108, 105, 101, 110, 116, 41, 32]⟩ : ByteArray) ++ mkB r.mt ++ (⟨#[40, 105, 110, 32]⟩ : ByteArray) ++ mkB r.inn ++ (⟨#[41, 32, 40]⟩ : ByteArray) ++ mkB r.out ++ (⟨#[44, 32, 83, 116, 97, 116, 117, 115, 41, 32, 123, 32, 114, 101, 116, 117, 114, 110, 32, 99, 97, 108, 108, 91]⟩ : ByteArray) ++ mkB r.out ++ (⟨#[93, 40, 99, 46, 67, 97, 108, 108, 101, 114, 44, 32]⟩ : ByteArray) ++ mkB (Lib.itoa r.id) ++ (⟨#[44, 32, 105, 110, 41, 32, 125, 10, 10]⟩ : ByteArray)).size ≤ B0 + 5000089 := by rw [ByteArray.size_append, t_end]; omega
          clear q0 q1 q2 q3 q4 q5 q6 q7 q8 q9 q10 q11 q12 q13
          have HL8 := Lib.hid (line8 acc2 r)
          skip
          have hI := itoaS r.id HFRh.out.1.1 HFRh.out.1.2 Z.drew ((HP.out.below HBZ.out).below (Below.refl _ Z).drew)
          have hc0 : ∀ W : World, W.heap[w3.heap.size]? = some (.cells #[.int .i64 r.id, .string (mkB r.sv), .string (mkB r.mt), .string (mkB r.inn), .string (mkB r.out)] 62 (0, 0)) → W.cell? ⟨w3.heap.size, 0, none⟩ = some (.int .i64 r.id) := fun W h => cell_at h 0 rfl
          have hc1 : ∀ W : World, W.heap[w3.heap.size]? = some (.cells #[.int .i64 r.id, .string (mkB r.sv), .string (mkB r.mt), .string (mkB r.inn), .string (mkB r.out)] 62 (0, 0)) → W.cell? ⟨w3.heap.size, 1, none⟩ = some (.string (mkB r.sv)) := fun W h => cell_at h 1 rfl
          have hc2 : ∀ W : World, W.heap[w3.heap.size]? = some (.cells #[.int .i64 r.id, .string (mkB r.sv), .string (mkB r.mt), .string (mkB r.inn), .string (mkB r.out)] 62 (0, 0)) → W.cell? ⟨w3.heap.size, 2, none⟩ = some (.string (mkB r.mt)) := fun W h => cell_at h 2 rfl
          have hc3 : ∀ W : World, W.heap[w3.heap.size]? = some (.cells #[.int .i64 r.id, .string (mkB r.sv), .string (mkB r.mt), .string (mkB r.inn), .string (mkB r.out)] 62 (0, 0)) → W.cell? ⟨w3.heap.size, 3, none⟩ = some (.string (mkB r.inn)) := fun W h => cell_at h 3 rfl
          have hc4 : ∀ W : World, W.heap[w3.heap.size]? = some (.cells #[.int .i64 r.id, .string (mkB r.sv), .string (mkB r.mt), .string (mkB r.inn), .string (mkB r.out)] 62 (0, 0)) → W.cell? ⟨w3.heap.size, 4, none⟩ = some (.string (mkB r.out)) := fun W h => cell_at h 4 rfl
          have hYX := HYZ.out
          go_region_held_law (fun W' => W'.heap[w3.heap.size]? = some (.cells #[.int .i64 r.id, .string (mkB r.sv), .string (mkB r.mt), .string (mkB r.inn), .string (mkB r.out)] 62 (0, 0))) (first | exact hYX | exact hV5 | assumption) (first
            | (go_at_call 36; refine hI.mono ?_; rintro e W5 ⟨rfl, hw5⟩; have hb5 : Below Z.heap.size Z W5 := (Below.refl _ Z).drew.trans hw5; clear hw5; have hV5 := (hb5.block _ hltZ).trans hYX))
          all_goals
            have HB5 := Lib.hid (HBZ.out.trans (hb5.mono HBZ.out.size))
            rw [HL8.out]
            clear hV5 hb5 hI
            go_wp2_with fail
            go_roundw
            case rel => exact ⟨k + 1, some r.sv, _, by omega, by go_num, rfl, HTX.out, .inr ⟨r, by omega, HR.out, rfl⟩, HB5.out⟩
            case measure => simp [intOf]; omega
        · obtain ⟨r', _, hr', hpr⟩ : ∃ r', 0 < k ∧ xs[k - 1]? = some r' ∧ p = some r'.sv := by
            rcases HPK.out with ⟨h, _⟩ | h
            · exact absurd h hk00
            · exact h
          have hsv : ¬ r'.sv = r.sv := fun e => hsame (by rw [hpr, e])
          have hk0b : ((k : Int) == 0) = false := by simp; omega
          have hwk1 : IntKind.i64.wrap ((k : Int) - 1) = (k : Int) - 1 := by rw [IntKind.wrap_i64]; omega
          have hkm0 : (0 : Int) ≤ (k : Int) - 1 := by omega
          have hkm1 : (k : Int) - 1 < (n : Int) := by omega
          have htn : ((k : Int) - 1).toNat = k - 1 := by omega
          obtain ⟨g2, o2, c2, hsl2, hg2, hcells2⟩ := rw_cells HH.out hr'
          obtain ⟨hg22, ho22⟩ : g = g2 ∧ o = o2 := by
            have := (Value.slice.inj hsl2).1
            simp only [Option.some.injEq, Addr.mk.injEq, and_true] at this
            exact this
          subst hg22 ho22
          have p1 := (hcells2 Y (HBY.out.block g hg)).2.1
          have hcmp1 : ((mkB r'.sv).toList == (mkB r.sv).toList) = false := by
            rw [mkB_list, mkB_list, beq_eq_false_iff_ne]; exact hsv
          have hcmp2 : ¬ mkB r'.sv = mkB r.sv := by
            intro e
            have := congrArg (fun x : ByteArray => x.toList) e
            simp only [mkB_list] at this
            exact hsv this
          clear hsame hpr hsl2 hcells2 hsv hr'
          go_quiet (fail)
          have hbn : Below Y.heap.size Y (Y.drewN nq) := ⟨rfl, rfl, rfl, Nat.le_refl _, fun _ _ => rfl⟩
          generalize Y.drewN nq = Z at *
          have HYZ := Lib.hid ((hbn.block _ hltY).trans HYY.out)
          have HBZ := Lib.hid (HBY.out.trans (hbn.mono (by omega)))
          have hltZ := blk_lt HYZ.out
          have y1z := cell_at HYZ.out 1 rfl
          go_upto_region 8 with fail
          rw [HZ3.out]
          clear z1 z2 z3 y1z y1
          generalize acc ++ flatT [tyL r.sv, []] = acc2 at *
          have q0 : (mkB acc2).size ≤ B0 := (by rw [mkB_sz]; omega)
          have s1 := sumZ (mkB acc2) ((⟨#[102, 117, 110, 99, 32, 40, 99, 32]⟩ : ByteArray)) (by rw [t_func]; omega)
          have q1 : (mkB acc2 ++ (⟨#[102, 117, 110, 99, 32, 40, 99, 32]⟩ : ByteArray)).size ≤ B0 + 8 := by rw [ByteArray.size_append, t_func]; omega
          have s2 := sumZ (mkB acc2 ++ (⟨#[102, 117, 110, 99, 32, 40, 99, 32]⟩ : ByteArray)) (mkB r.sv) (by rw [mkB_sz]; omega)
          have q2 : (mkB acc2 ++ (⟨#[102, 117, 110, 99, 32, 40, 99, 32]⟩ : ByteArray) ++ mkB r.sv).size ≤ B0 + 1000008 := by rw [ByteArray.size_append, mkB_sz]; omega
          have s3 := sumZ (mkB acc2 ++ (⟨#[102, 117, 110, 99, 32, 40, 99, 32]⟩ : ByteArray) ++ mkB r.sv) ((⟨#[67, 108, 105, 101, 110, 116, 41, 32]⟩ : ByteArray)) (by rw [t_client]; omega)
          have q3 : (mkB acc2 ++ (⟨#[102, 117, 110, 99, 32, 40, 99, 32]⟩ : ByteArray) ++ mkB r.sv ++ (⟨#[67, 108, 105, 101, 110, 116, 41, 32]⟩ : ByteArray)).size ≤ B0 + 1000016 := by rw [ByteArray.size_append, t_client]; omega
          have s4 := sumZ (mkB acc2 ++ (⟨#[102, 117, 110, 99, 32, 40, 99, 32]⟩ : ByteArray) ++ mkB r.sv ++ (⟨#[67, 108, 105, 101, 110, 116, 41, 32]⟩ : ByteArray)) (mkB r.mt) (by rw [mkB_sz]; omega)
          have q4 : (mkB acc2 ++ (⟨#[102, 117, 110, 99, 32, 40, 99, 32]⟩ : ByteArray) ++ mkB r.sv ++ (⟨#[67, 108, 105, 101, 110, 116, 41, 32]⟩ : ByteArray) ++ mkB r.mt).size ≤ B0 + 2000016 := by rw [ByteArray.size_append, mkB_sz]; omega
          have s5 := sumZ (mkB acc2 ++ (⟨#[102, 117, 110, 99, 32, 40, 99, 32]⟩ : ByteArray) ++ mkB r.sv ++ (⟨#[67, 108, 105, 101, 110, 116, 41, 32]⟩ : ByteArray) ++ mkB r.mt) ((⟨#[40, 105, 110, 32]⟩ : ByteArray)) (by rw [t_in]; omega)
          have q5 : (mkB acc2 ++ (⟨#[102, 117, 110, 99, 32, 40, 99, 32]⟩ : ByteArray) ++ mkB r.sv ++ (⟨#[67, 108, 105, 101, 110, 116, 41, 32]⟩ : ByteArray) ++ mkB r.mt ++ (⟨#[40, 105, 110, 32]⟩ : ByteArray)).size ≤ B0 + 2000020 := by rw [ByteArray.size_append, t_in]; omega
          have s6 := sumZ (mkB acc2 ++ (⟨#[102, 117, 110, 99, 32, 40, 99, 32]⟩ : ByteArray) ++ mkB r.sv ++ (⟨#[67, 108, 105, 101, 110, 116, 41, 32]⟩ : ByteArray) ++ mkB r.mt ++ (⟨#[40, 105, 110, 32]⟩ : ByteArray)) (mkB r.inn) (by rw [mkB_sz]; omega)
          have q6 : (mkB acc2 ++ (⟨#[102, 117, 110, 99, 32, 40, 99, 32]⟩ : ByteArray) ++ mkB r.sv ++ (⟨#[67, 108, 105, 101, 110, 116, 41, 32]⟩ : ByteArray) ++ mkB r.mt ++ (⟨#[40, 105, 110, 32]⟩ : ByteArray) ++ mkB r.inn).size ≤ B0 + 3000020 := by rw [ByteArray.size_append, mkB_sz]; omega
          have s7 := sumZ (mkB acc2 ++ (⟨#[102, 117, 110, 99, 32, 40, 99, 32]⟩ : ByteArray) ++ mkB r.sv ++ (⟨#[67, 108, 105, 101, 110, 116, 41, 32]⟩ : ByteArray) ++ mkB r.mt ++ (⟨#[40, 105, 110, 32]⟩ : ByteArray) ++ mkB r.inn) ((⟨#[41, 32, 40]⟩ : ByteArray)) (by rw [t_mid]; omega)
          have q7 : (mkB acc2 ++ (⟨#[102, 117, 110, 99, 32, 40, 99, 32]⟩ : ByteArray) ++ mkB r.sv ++ (⟨#[67, 108, 105, 101, 110, 116, 41, 32]⟩ : ByteArray) ++ mkB r.mt ++ (⟨#[40, 105, 110, 32]⟩ : ByteArray) ++ mkB r.inn ++ (⟨#[41, 32, 40]⟩ : ByteArray)).size ≤ B0 + 3000023 := by rw [ByteArray.size_append, t_mid]; omega
          have s8 := sumZ (mkB acc2 ++ (⟨#[102, 117, 110, 99, 32, 40, 99, 32]⟩ : ByteArray) ++ mkB r.sv ++ (⟨#[67, 108, 105, 101, 110, 116, 41, 32]⟩ : ByteArray) ++ mkB r.mt ++ (⟨#[40, 105, 110, 32]⟩ : ByteArray) ++ mkB r.inn ++ (⟨#[41, 32, 40]⟩ : ByteArray)) (mkB r.out) (by rw [mkB_sz]; omega)
          have q8 : (mkB acc2 ++ (⟨#[102, 117, 110, 99, 32, 40, 99, 32]⟩ : ByteArray) ++ mkB r.sv ++ (⟨#[67, 108, 105, 101, 110, 116, 41, 32]⟩ : ByteArray) ++ mkB r.mt ++ (⟨#[40, 105, 110, 32]⟩ : ByteArray) ++ mkB r.inn ++ (⟨#[41, 32, 40]⟩ : ByteArray) ++ mkB r.out).size ≤ B0 + 4000023 := by rw [ByteArray.size_append, mkB_sz]; omega
          have s9 := sumZ (mkB acc2 ++ (⟨#[102, 117, 110, 99, 32, 40, 99, 32]⟩ : ByteArray) ++ mkB r.sv ++ (⟨#[67, 108, 105, 101, 110, 116, 41, 32]⟩ : ByteArray) ++ mkB r.mt ++ (⟨#[40, 105, 110, 32]⟩ : ByteArray) ++ mkB r.inn ++ (⟨#[41, 32, 40]⟩ : ByteArray) ++ mkB r.out) ((⟨#[44, 32, 83, 116, 97, 116, 117, 115, 41, 32, 123, 32, 114, 101, 116, 117, 114, 110, 32, 99, 97, 108, 108, 91]⟩ : ByteArray)) (by rw [t_stat]; omega)
          have q9 : (mkB acc2 ++ (⟨#[102, 117, 110, 99, 32, 40, 99, 32]⟩ : ByteArray) ++ mkB r.sv ++ (⟨#[67, 108, 105, 101, 110, 116, 41, 32]⟩ : ByteArray) ++ mkB r.mt ++ (⟨#[40, 105, 110, 32]⟩ : ByteArray) ++ mkB r.inn ++ (⟨#[41, 32, 40]⟩ : ByteArray) ++ mkB r.out ++ (⟨#[44, 32, 83, 116, 97, 116, 117, 115, 41, 32, 123, 32, 114, 101, 116, 117, 114, 110, 32, 99, 97, 108, 108, 91]⟩ : ByteArray)).size ≤ B0 + 4000047 := by rw [ByteArray.size_append, t_stat]; omega
          have s10 := sumZ (mkB acc2 ++ (⟨#[102, 117, 110, 99, 32, 40, 99, 32]⟩ : ByteArray) ++ mkB r.sv ++ (⟨#[67, 108, 105, 101, 110, 116, 41, 32]⟩ : ByteArray) ++ mkB r.mt ++ (⟨#[40, 105, 110, 32]⟩ : ByteArray) ++ mkB r.inn ++ (⟨#[41, 32, 40]⟩ : ByteArray) ++ mkB r.out ++ (⟨#[44, 32, 83, 116, 97, 116, 117, 115, 41, 32, 123, 32, 114, 101, 116, 117, 114, 110, 32, 99, 97, 108, 108, 91]⟩ : ByteArray)) (mkB r.out) (by rw [mkB_sz]; omega)
          have q10 : (mkB acc2 ++ (⟨#[102, 117, 110, 99, 32, 40, 99, 32]⟩ : ByteArray) ++ mkB r.sv ++ (⟨#[67, 108, 105, 101, 110, 116, 41, 32]⟩ : ByteArray) ++ mkB r.mt ++ (⟨#[40, 105, 110, 32]⟩ : ByteArray) ++ mkB r.inn ++ (⟨#[41, 32, 40]⟩ : ByteArray) ++ mkB r.out ++ (⟨#[44, 32, 83, 116, 97, 116, 117, 115, 41, 32, 123, 32, 114, 101, 116, 117, 114, 110, 32, 99, 97, 108, 108, 91]⟩ : ByteArray) ++ mkB r.out).size ≤ B0 + 5000047 := by rw [ByteArray.size_append, mkB_sz]; omega
          have s11 := sumZ (mkB acc2 ++ (⟨#[102, 117, 110, 99, 32, 40, 99, 32]⟩ : ByteArray) ++ mkB r.sv ++ (⟨#[67, 108, 105, 101, 110, 116, 41, 32]⟩ : ByteArray) ++ mkB r.mt ++ (⟨#[40, 105, 110, 32]⟩ : ByteArray) ++ mkB r.inn ++ (⟨#[41, 32, 40]⟩ : ByteArray) ++ mkB r.out ++ (⟨#[44, 32, 83, 116, 97, 116, 117, 115, 41, 32, 123, 32, 114, 101, 116, 117, 114, 110, 32, 99, 97, 108, 108, 91]⟩ : ByteArray) ++ mkB r.out) ((⟨#[93, 40, 99, 46, 67, 97, 108, 108, 101, 114, 44, 32]⟩ : ByteArray)) (by rw [t_caller]; omega)
          have q11 : (mkB acc2 ++ (⟨#[102, 117, 110, 99, 32, 40, 99, 32]⟩ : ByteArray) ++ mkB r.sv ++ (⟨#[67, 108, 105, 101, 110, 116, 41, 32]⟩ : ByteArray) ++ mkB r.mt ++ (⟨#[40, 105, 110, 32]⟩ : ByteArray) ++ mkB r.inn ++ (⟨#[41, 32, 40]⟩ : ByteArray) ++ mkB r.out ++ (⟨#[44, 32, 83, 116, 97, 116, 117, 115, 41, 32, 123, 32, 114, 101, 116, 117, 114, 110, 32, 99, 97, 108, 108, 91]⟩ : ByteArray) ++ mkB r.out ++ (⟨#[93, 40, 99, 46, 67, 97, 108, 108, 101, 114, 44, 32]⟩ : ByteArray)).size ≤ B0 + 5000059 := by rw [ByteArray.size_append, t_caller]; omega
          have s12 := sumZ (mkB acc2 ++ (⟨#[102, 117, 110, 99, 32, 40, 99, 32]⟩ : ByteArray) ++ mkB r.sv ++ (⟨#[67, 108, 105, 101, 110, 116, 41, 32]⟩ : ByteArray) ++ mkB r.mt ++ (⟨#[40, 105, 110, 32]⟩ : ByteArray) ++ mkB r.inn ++ (⟨#[41, 32, 40]⟩ : ByteArray) ++ mkB r.out ++ (⟨#[44, 32, 83, 116, 97, 116, 117, 115, 41, 32, 123, 32, 114, 101, 116, 117, 114, 110, 32, 99, 97, 108, 108, 91]⟩ : ByteArray) ++ mkB r.out ++ (⟨#[93, 40, 99, 46, 67, 97, 108, 108, 101, 114, 44, 32]⟩ : ByteArray)) (mkB (Lib.itoa r.id)) (by rw [mkB_sz]; omega)
          have q12 : (mkB acc2 ++ (⟨#[102, 117, 110, 99, 32, 40, 99, 32]⟩ : ByteArray) ++ mkB r.sv ++ (⟨#[67, 108, 105, 101, 110, 116, 41, 32]⟩ : ByteArray) ++ mkB r.mt ++ (⟨#[40, 105, 110, 32]⟩ : ByteArray) ++ mkB r.inn ++ (⟨#[41, 32, 40]⟩ : ByteArray) ++ mkB r.out ++ (⟨#[44, 32, 83, 116, 97, 116, 117, 115, 41, 32, 123, 32, 114, 101, 116, 117, 114, 110, 32, 99, 97, 108, 108, 91]⟩ : ByteArray) ++ mkB r.out ++ (⟨#[93, 40, 99, 46, 67, 97, 108, 108, 101, 114, 44, 32]⟩ : ByteArray) ++ mkB (Lib.itoa r.id)).size ≤ B0 + 5000080 := by rw [ByteArray.size_append, mkB_sz]; omega
          have s13 := sumZ (mkB acc2 ++ (⟨#[102, 117, 110, 99, 32, 40, 99, 32]⟩ : ByteArray) ++ mkB r.sv ++ (⟨#[67, 108, 105, 101, 110, 116, 41, 32]⟩ : ByteArray) ++ mkB r.mt ++ (⟨#[40, 105, 110, 32]⟩ : ByteArray) ++ mkB r.inn ++ (⟨#[41, 32, 40]⟩ : ByteArray) ++ mkB r.out ++ (⟨#[44, 32, 83, 116, 97, 116, 117, 115, 41, 32, 123, 32, 114, 101, 116, 117, 114, 110, 32, 99, 97, 108, 108, 91]⟩ : ByteArray) ++ mkB r.out ++ (⟨#[93, 40, 99, 46, 67, 97, 108, 108, 101, 114, 44, 32]⟩ : ByteArray) ++ mkB (Lib.itoa r.id)) ((⟨#[44, 32, 105, 110, 41, 32, 125, 10, 10]⟩ : ByteArray)) (by rw [t_end]; omega)
          have q13 : (mkB acc2 ++ (⟨#[102, 117, 110, 99, 32, 40, 99, 32]⟩ : ByteArray) ++ mkB r.sv ++ (⟨#[67, 108, 105, 101, 110, 116, 41, 32]⟩ : ByteArray) ++ mkB r.mt ++ (⟨#[40, 105, 110, 32]⟩ : ByteArray) ++ mkB r.inn ++ (⟨#[41, 32, 40]⟩ : ByteArray) ++ mkB r.out ++ (⟨#[44, 32, 83, 116, 97, 116, 117, 115, 41, 32, 123, 32, 114, 101, 116, 117, 114, 110, 32, 99, 97, 108, 108, 91]⟩ : ByteArray) ++ mkB r.out ++ (⟨#[93, 40, 99, 46, 67, 97, 108, 108, 101, 114, 44, 32]⟩ : ByteArray) ++ mkB (Lib.itoa r.id) ++ (⟨#[44, 32, 105, 110, 41, 32, 125, 10, 10]⟩ : ByteArray)).size ≤ B0 + 5000089 := by rw [ByteArray.size_append, t_end]; omega
          clear q0 q1 q2 q3 q4 q5 q6 q7 q8 q9 q10 q11 q12 q13
          have HL8 := Lib.hid (line8 acc2 r)
          skip
          have hI := itoaS r.id HFRh.out.1.1 HFRh.out.1.2 Z.drew ((HP.out.below HBZ.out).below (Below.refl _ Z).drew)
          have hc0 : ∀ W : World, W.heap[w3.heap.size]? = some (.cells #[.int .i64 r.id, .string (mkB r.sv), .string (mkB r.mt), .string (mkB r.inn), .string (mkB r.out)] 62 (0, 0)) → W.cell? ⟨w3.heap.size, 0, none⟩ = some (.int .i64 r.id) := fun W h => cell_at h 0 rfl
          have hc1 : ∀ W : World, W.heap[w3.heap.size]? = some (.cells #[.int .i64 r.id, .string (mkB r.sv), .string (mkB r.mt), .string (mkB r.inn), .string (mkB r.out)] 62 (0, 0)) → W.cell? ⟨w3.heap.size, 1, none⟩ = some (.string (mkB r.sv)) := fun W h => cell_at h 1 rfl
          have hc2 : ∀ W : World, W.heap[w3.heap.size]? = some (.cells #[.int .i64 r.id, .string (mkB r.sv), .string (mkB r.mt), .string (mkB r.inn), .string (mkB r.out)] 62 (0, 0)) → W.cell? ⟨w3.heap.size, 2, none⟩ = some (.string (mkB r.mt)) := fun W h => cell_at h 2 rfl
          have hc3 : ∀ W : World, W.heap[w3.heap.size]? = some (.cells #[.int .i64 r.id, .string (mkB r.sv), .string (mkB r.mt), .string (mkB r.inn), .string (mkB r.out)] 62 (0, 0)) → W.cell? ⟨w3.heap.size, 3, none⟩ = some (.string (mkB r.inn)) := fun W h => cell_at h 3 rfl
          have hc4 : ∀ W : World, W.heap[w3.heap.size]? = some (.cells #[.int .i64 r.id, .string (mkB r.sv), .string (mkB r.mt), .string (mkB r.inn), .string (mkB r.out)] 62 (0, 0)) → W.cell? ⟨w3.heap.size, 4, none⟩ = some (.string (mkB r.out)) := fun W h => cell_at h 4 rfl
          have hYX := HYZ.out
          go_region_held_law (fun W' => W'.heap[w3.heap.size]? = some (.cells #[.int .i64 r.id, .string (mkB r.sv), .string (mkB r.mt), .string (mkB r.inn), .string (mkB r.out)] 62 (0, 0))) (first | exact hYX | exact hV5 | assumption) (first
            | (go_at_call 36; refine hI.mono ?_; rintro e W5 ⟨rfl, hw5⟩; have hb5 : Below Z.heap.size Z W5 := (Below.refl _ Z).drew.trans hw5; clear hw5; have hV5 := (hb5.block _ hltZ).trans hYX))
          all_goals
            have HB5 := Lib.hid (HBZ.out.trans (hb5.mono HBZ.out.size))
            rw [HL8.out]
            clear hV5 hb5 hI
            go_wp2_with fail
            go_roundw
            case rel => exact ⟨k + 1, some r.sv, _, by omega, by go_num, rfl, HTX.out, .inr ⟨r, by omega, HR.out, rfl⟩, HB5.out⟩
            case measure => simp [intOf]; omega
    · obtain rfl : k = n := by omega
      have HTD : Hid (T = (acc ++ flatT [wDisp, wSwitch]) ++ (flatT (caseL xs) ++ flatT [wE1, wE2, wE3])) := by
        refine (?_ : _ = _)
        conv => lhs; rw [HTK.out, List.drop_of_length_le (by rw [HN.out]; omega), headL, HTL.out]
        simp only [List.append_assoc]
        rfl
      have z1 := sumZ (mkB acc) (⟨#[102, 117, 110, 99, 32, 68, 105, 115, 112, 97, 116, 99, 104, 40, 104, 32, 72, 97, 110, 100, 108, 101, 114, 115, 44, 32, 105, 100, 32, 105, 110, 116, 44, 32, 105, 110, 32, 97, 110, 121, 41, 32, 40, 97, 110, 121, 44, 32, 83, 116, 97, 116, 117, 115, 41, 32, 123, 10, 9, 115, 119, 105, 116, 99, 104, 32, 105, 100, 32, 123, 10]⟩ : ByteArray) (by rw [mkB_sz, t_disp]; omega)
      have HZ1 : Hid (mkB acc ++ (⟨#[102, 117, 110, 99, 32, 68, 105, 115, 112, 97, 116, 99, 104, 40, 104, 32, 72, 97, 110, 100, 108, 101, 114, 115, 44, 32, 105, 100, 32, 105, 110, 116, 44, 32, 105, 110, 32, 97, 110, 121, 41, 32, 40, 97, 110, 121, 44, 32, 83, 116, 97, 116, 117, 115, 41, 32, 123, 10, 9, 115, 119, 105, 116, 99, 104, 32, 105, 100, 32, 123, 10]⟩ : ByteArray) = mkB (acc ++ flatT [wDisp, wSwitch])) := by
        refine (?_ : _ = _)
        rw [mkB_ap]
        rfl
      clear HTK HTL HPK
      go_wp2_with fail
      have HZ1' := HZ1.out
      first | rw [HZ1'] | skip
      generalize acc ++ flatT [wDisp, wSwitch] = acc4 at *
      clear HZ1 HZ1' z1
      go_loopw [3, 68] (fun u i wr => ∃ (q : Nat) (acc : List UInt8), q ≤ k ∧ i = .int .i64 (q : Int) ∧ u = .string (mkB acc) ∧ T = acc ++ (flatT (caseL (xs.drop q)) ++ flatT [wE1, wE2, wE3]) ∧ Below w.heap.size w wr) (fun _ i _ => k - (intOf i).toNat)
      case atStart => exact ⟨0, acc4, Nat.zero_le _, rfl, rfl, HTD.out, HBw3.out⟩
      case round =>
        generalize wr = w5 at *
        obtain ⟨q, acc5, hq, rfl, rfl, hT, hB⟩ := hrel
        have HTQ := Lib.hid hT
        have HBw5 := Lib.hid hB
        have hsw5 := hB.size
        have hacc5 : acc5.length ≤ B0 := by
          have := congrArg List.length hT
          simp only [List.length_append] at this
          omega
        clear hT hB HTD
        by_cases hqk : q < k
        · obtain ⟨r, hr⟩ : ∃ r, xs[q]? = some r := ⟨_, List.getElem?_eq_getElem (by rw [HN.out]; exact hqk)⟩
          have HFR := HF.out r (List.mem_of_getElem? hr)
          have HFRh := Lib.hid HFR
          obtain ⟨⟨f0, f0b⟩, f1, f2, f3, f4⟩ := HFR
          have hil := Lib.itoa_length_le r.id f0 f0b
          obtain ⟨g, o, c, hsl, hg, hcells⟩ := rw_cells HH.out hr
          have HTX : Hid (T = (acc5 ++ (flatT [c1L r] ++ flatT [c2L r])) ++ (flatT (caseL (xs.drop (q + 1))) ++ flatT [wE1, wE2, wE3])) := by
            refine (?_ : _ = _)
            obtain ⟨h1, h2⟩ := List.getElem?_eq_some_iff.1 hr
            conv => lhs; rw [HTQ.out, List.drop_eq_getElem_cons h1, h2, case_step]
            simp only [List.append_assoc]
          have hra : ra = some ⟨g, o, none⟩ := (Value.slice.inj hsl).1
          subst hra
          obtain ⟨e0, e1, e2, e3, e4⟩ := hcells w5 (HBw5.out.block g hg)
          have hk0 : (0 : Int) ≤ (q : Int) := by omega
          have hk1 : (q : Int) < (k : Int) := by omega
          have hwk : IntKind.i64.wrap ((q : Int) + 1) = (q : Int) + 1 := by rw [IntKind.wrap_i64]; omega
          have hbY : Below w5.heap.size w5 (w5.alloc (.cells #[.int .i64 r.id, .string (mkB r.sv), .string (mkB r.mt), .string (mkB r.inn), .string (mkB r.out)] 62)) := (Below.refl _ _).alloc (Nat.le_refl _) _
          have hY : (w5.alloc (.cells #[.int .i64 r.id, .string (mkB r.sv), .string (mkB r.mt), .string (mkB r.inn), .string (mkB r.out)] 62)).heap[w5.heap.size]? = some (.cells #[.int .i64 r.id, .string (mkB r.sv), .string (mkB r.mt), .string (mkB r.inn), .string (mkB r.out)] 62 (0, 0)) := alloc_heap_new _ _
          clear hr hsl hcells HTQ
          go_upto_region 15 with fail
          generalize (w5.alloc (.cells #[.int .i64 r.id, .string (mkB r.sv), .string (mkB r.mt), .string (mkB r.inn), .string (mkB r.out)] 62)) = Y at *
          have HYY := Lib.hid hY
          have HBY := Lib.hid (HBw5.out.trans (hbY.mono hsw5))
          have hltY := blk_lt hY
          have hsY := hbY.size
          clear hY hbY e0 e1 e2 e3 e4
          have q0 : (mkB acc5).size ≤ B0 := (by rw [mkB_sz]; omega)
          have s1 := sumZ (mkB acc5) ((⟨#[9, 99, 97, 115, 101, 32]⟩ : ByteArray)) (by rw [t_case]; omega)
          have q1 : (mkB acc5 ++ (⟨#[9, 99, 97, 115, 101, 32]⟩ : ByteArray)).size ≤ B0 + 6 := by rw [ByteArray.size_append, t_case]; omega
          have s2 := sumZ (mkB acc5 ++ (⟨#[9, 99, 97, 115, 101, 32]⟩ : ByteArray)) (mkB (Lib.itoa r.id)) (by rw [mkB_sz]; omega)
          have q2 : (mkB acc5 ++ (⟨#[9, 99, 97, 115, 101, 32]⟩ : ByteArray) ++ mkB (Lib.itoa r.id)).size ≤ B0 + 27 := by rw [ByteArray.size_append, mkB_sz]; omega
          have s3 := sumZ (mkB acc5 ++ (⟨#[9, 99, 97, 115, 101, 32]⟩ : ByteArray) ++ mkB (Lib.itoa r.id)) ((⟨#[58, 10, 9, 9, 114, 101, 116, 117, 114, 110, 32, 104, 46]⟩ : ByteArray)) (by rw [t_ret]; omega)
          have q3 : (mkB acc5 ++ (⟨#[9, 99, 97, 115, 101, 32]⟩ : ByteArray) ++ mkB (Lib.itoa r.id) ++ (⟨#[58, 10, 9, 9, 114, 101, 116, 117, 114, 110, 32, 104, 46]⟩ : ByteArray)).size ≤ B0 + 40 := by rw [ByteArray.size_append, t_ret]; omega
          have s4 := sumZ (mkB acc5 ++ (⟨#[9, 99, 97, 115, 101, 32]⟩ : ByteArray) ++ mkB (Lib.itoa r.id) ++ (⟨#[58, 10, 9, 9, 114, 101, 116, 117, 114, 110, 32, 104, 46]⟩ : ByteArray)) (mkB r.sv) (by rw [mkB_sz]; omega)
          have q4 : (mkB acc5 ++ (⟨#[9, 99, 97, 115, 101, 32]⟩ : ByteArray) ++ mkB (Lib.itoa r.id) ++ (⟨#[58, 10, 9, 9, 114, 101, 116, 117, 114, 110, 32, 104, 46]⟩ : ByteArray) ++ mkB r.sv).size ≤ B0 + 1000040 := by rw [ByteArray.size_append, mkB_sz]; omega
          have s5 := sumZ (mkB acc5 ++ (⟨#[9, 99, 97, 115, 101, 32]⟩ : ByteArray) ++ mkB (Lib.itoa r.id) ++ (⟨#[58, 10, 9, 9, 114, 101, 116, 117, 114, 110, 32, 104, 46]⟩ : ByteArray) ++ mkB r.sv) ((⟨#[95]⟩ : ByteArray)) (by rw [t_under]; omega)
          have q5 : (mkB acc5 ++ (⟨#[9, 99, 97, 115, 101, 32]⟩ : ByteArray) ++ mkB (Lib.itoa r.id) ++ (⟨#[58, 10, 9, 9, 114, 101, 116, 117, 114, 110, 32, 104, 46]⟩ : ByteArray) ++ mkB r.sv ++ (⟨#[95]⟩ : ByteArray)).size ≤ B0 + 1000041 := by rw [ByteArray.size_append, t_under]; omega
          have s6 := sumZ (mkB acc5 ++ (⟨#[9, 99, 97, 115, 101, 32]⟩ : ByteArray) ++ mkB (Lib.itoa r.id) ++ (⟨#[58, 10, 9, 9, 114, 101, 116, 117, 114, 110, 32, 104, 46]⟩ : ByteArray) ++ mkB r.sv ++ (⟨#[95]⟩ : ByteArray)) (mkB r.mt) (by rw [mkB_sz]; omega)
          have q6 : (mkB acc5 ++ (⟨#[9, 99, 97, 115, 101, 32]⟩ : ByteArray) ++ mkB (Lib.itoa r.id) ++ (⟨#[58, 10, 9, 9, 114, 101, 116, 117, 114, 110, 32, 104, 46]⟩ : ByteArray) ++ mkB r.sv ++ (⟨#[95]⟩ : ByteArray) ++ mkB r.mt).size ≤ B0 + 2000041 := by rw [ByteArray.size_append, mkB_sz]; omega
          have s7 := sumZ (mkB acc5 ++ (⟨#[9, 99, 97, 115, 101, 32]⟩ : ByteArray) ++ mkB (Lib.itoa r.id) ++ (⟨#[58, 10, 9, 9, 114, 101, 116, 117, 114, 110, 32, 104, 46]⟩ : ByteArray) ++ mkB r.sv ++ (⟨#[95]⟩ : ByteArray) ++ mkB r.mt) ((⟨#[40, 105, 110, 46, 40]⟩ : ByteArray)) (by rw [t_inn]; omega)
          have q7 : (mkB acc5 ++ (⟨#[9, 99, 97, 115, 101, 32]⟩ : ByteArray) ++ mkB (Lib.itoa r.id) ++ (⟨#[58, 10, 9, 9, 114, 101, 116, 117, 114, 110, 32, 104, 46]⟩ : ByteArray) ++ mkB r.sv ++ (⟨#[95]⟩ : ByteArray) ++ mkB r.mt ++ (⟨#[40, 105, 110, 46, 40]⟩ : ByteArray)).size ≤ B0 + 2000046 := by rw [ByteArray.size_append, t_inn]; omega
          have s8 := sumZ (mkB acc5 ++ (⟨#[9, 99, 97, 115, 101, 32]⟩ : ByteArray) ++ mkB (Lib.itoa r.id) ++ (⟨#[58, 10, 9, 9, 114, 101, 116, 117, 114, 110, 32, 104, 46]⟩ : ByteArray) ++ mkB r.sv ++ (⟨#[95]⟩ : ByteArray) ++ mkB r.mt ++ (⟨#[40, 105, 110, 46, 40]⟩ : ByteArray)) (mkB r.inn) (by rw [mkB_sz]; omega)
          have q8 : (mkB acc5 ++ (⟨#[9, 99, 97, 115, 101, 32]⟩ : ByteArray) ++ mkB (Lib.itoa r.id) ++ (⟨#[58, 10, 9, 9, 114, 101, 116, 117, 114, 110, 32, 104, 46]⟩ : ByteArray) ++ mkB r.sv ++ (⟨#[95]⟩ : ByteArray) ++ mkB r.mt ++ (⟨#[40, 105, 110, 46, 40]⟩ : ByteArray) ++ mkB r.inn).size ≤ B0 + 3000046 := by rw [ByteArray.size_append, mkB_sz]; omega
          have s9 := sumZ (mkB acc5 ++ (⟨#[9, 99, 97, 115, 101, 32]⟩ : ByteArray) ++ mkB (Lib.itoa r.id) ++ (⟨#[58, 10, 9, 9, 114, 101, 116, 117, 114, 110, 32, 104, 46]⟩ : ByteArray) ++ mkB r.sv ++ (⟨#[95]⟩ : ByteArray) ++ mkB r.mt ++ (⟨#[40, 105, 110, 46, 40]⟩ : ByteArray) ++ mkB r.inn) ((⟨#[41, 41, 10]⟩ : ByteArray)) (by rw [t_close]; omega)
          have q9 : (mkB acc5 ++ (⟨#[9, 99, 97, 115, 101, 32]⟩ : ByteArray) ++ mkB (Lib.itoa r.id) ++ (⟨#[58, 10, 9, 9, 114, 101, 116, 117, 114, 110, 32, 104, 46]⟩ : ByteArray) ++ mkB r.sv ++ (⟨#[95]⟩ : ByteArray) ++ mkB r.mt ++ (⟨#[40, 105, 110, 46, 40]⟩ : ByteArray) ++ mkB r.inn ++ (⟨#[41, 41, 10]⟩ : ByteArray)).size ≤ B0 + 3000049 := by rw [ByteArray.size_append, t_close]; omega
          clear q0 q1 q2 q3 q4 q5 q6 q7 q8 q9
          have HL15 := Lib.hid (line15 acc5 r)
          clear f1 f2 f3 f4 hil
          have hI := itoaS r.id HFRh.out.1.1 HFRh.out.1.2 Y.drew ((HP.out.below HBY.out).below (Below.refl _ Y).drew)
          have hc0 : ∀ W : World, W.heap[w5.heap.size]? = some (.cells #[.int .i64 r.id, .string (mkB r.sv), .string (mkB r.mt), .string (mkB r.inn), .string (mkB r.out)] 62 (0, 0)) → W.cell? ⟨w5.heap.size, 0, none⟩ = some (.int .i64 r.id) := fun W h => cell_at h 0 rfl
          have hc1 : ∀ W : World, W.heap[w5.heap.size]? = some (.cells #[.int .i64 r.id, .string (mkB r.sv), .string (mkB r.mt), .string (mkB r.inn), .string (mkB r.out)] 62 (0, 0)) → W.cell? ⟨w5.heap.size, 1, none⟩ = some (.string (mkB r.sv)) := fun W h => cell_at h 1 rfl
          have hc2 : ∀ W : World, W.heap[w5.heap.size]? = some (.cells #[.int .i64 r.id, .string (mkB r.sv), .string (mkB r.mt), .string (mkB r.inn), .string (mkB r.out)] 62 (0, 0)) → W.cell? ⟨w5.heap.size, 2, none⟩ = some (.string (mkB r.mt)) := fun W h => cell_at h 2 rfl
          have hc3 : ∀ W : World, W.heap[w5.heap.size]? = some (.cells #[.int .i64 r.id, .string (mkB r.sv), .string (mkB r.mt), .string (mkB r.inn), .string (mkB r.out)] 62 (0, 0)) → W.cell? ⟨w5.heap.size, 3, none⟩ = some (.string (mkB r.inn)) := fun W h => cell_at h 3 rfl
          have hc4 : ∀ W : World, W.heap[w5.heap.size]? = some (.cells #[.int .i64 r.id, .string (mkB r.sv), .string (mkB r.mt), .string (mkB r.inn), .string (mkB r.out)] 62 (0, 0)) → W.cell? ⟨w5.heap.size, 4, none⟩ = some (.string (mkB r.out)) := fun W h => cell_at h 4 rfl
          have hYX := HYY.out
          go_region_held_law (fun W' => W'.heap[w5.heap.size]? = some (.cells #[.int .i64 r.id, .string (mkB r.sv), .string (mkB r.mt), .string (mkB r.inn), .string (mkB r.out)] 62 (0, 0))) (first | exact hYX | exact hV5 | assumption) (first
            | (go_at_call 36; refine hI.mono ?_; rintro e W5 ⟨rfl, hw5⟩; have hb5 : Below Y.heap.size Y W5 := (Below.refl _ Y).drew.trans hw5; clear hw5; have hV5 := (hb5.block _ hltY).trans hYX))
          all_goals
            have HB5 := Lib.hid (HBY.out.trans (hb5.mono HBY.out.size))
            rw [HL15.out]
            clear hV5 hb5 hI
            go_wp2_with fail
            go_roundw
            case rel => exact ⟨q + 1, _, by omega, by go_num, rfl, HTX.out, HB5.out⟩
            case measure => simp [intOf]; omega
        · obtain rfl : q = k := by omega
          have HTE : Hid (T = acc5 ++ flatT [wE1, wE2, wE3]) := by
            refine (?_ : _ = _)
            conv => lhs; rw [HTQ.out, List.drop_of_length_le (by rw [HN.out]; omega)]
            rfl
          have z1 := sumZ (mkB acc5) (⟨#[9, 125, 10, 9, 114, 101, 116, 117, 114, 110, 32, 110, 105, 108, 44, 32, 85, 110, 105, 109, 112, 108, 101, 109, 101, 110, 116, 101, 100, 10, 125, 10]⟩ : ByteArray) (by rw [mkB_sz, t_last]; omega)
          have HZ1 : Hid (mkB acc5 ++ (⟨#[9, 125, 10, 9, 114, 101, 116, 117, 114, 110, 32, 110, 105, 108, 44, 32, 85, 110, 105, 109, 112, 108, 101, 109, 101, 110, 116, 101, 100, 10, 125, 10]⟩ : ByteArray) = mkB (acc5 ++ flatT [wE1, wE2, wE3])) := by
            refine (?_ : _ = _)
            rw [mkB_ap]
            rfl
          clear HTQ
          go_wp2_with fail
          go_ret
          refine ⟨?_, HBw5.out⟩
          rw [HTE.out, ← HZ1.out]
          rfl
end Go.Proofs.YtkhnicppcbgdiaaGreatDoor
