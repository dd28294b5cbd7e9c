/-
  The walk over the document's own Print: the text of declarations, or its error.
-/
import Derived.Test.YtngmimbpakmkiaaGreatDoorTxRz
import Derived.Test.YtngmimbpakmkiaaGreatDoorWdRz
import Derived.Test.YtngmimbpakmkiaaGreatDoorPnFz
namespace Go.Proofs.YtngmimbpakmkiaaGreatDoor
set_option linter.unusedVariables false
open Go.ChangeShapes Go.WideShapes Go.ChangeAt Go.RowKit

theorem nl_len (f : Nat) : ∀ t : List Dc, (t.flatMap fun d => 10 :: dT f 0 d).length = (t.flatMap (dT f 0)).length + t.length
  | [] => rfl
  | d :: t => by
    have := nl_len f t
    rw [List.flatMap_cons, List.flatMap_cons, List.length_append, List.length_append, List.length_cons, List.length_cons]
    omega
theorem textL_len (f : Nat) (ds : List Dc) : (textL f ds).length ≤ (ds.flatMap (dT f 0)).length + ds.length := by
  cases ds with
  | nil => simp [textL]
  | cons d t =>
    have := nl_len f t
    show (dT f 0 d ++ t.flatMap fun d => 10 :: dT f 0 d).length ≤ _
    rw [List.length_append, this, List.flatMap_cons, List.length_append, List.length_cons]
    omega
theorem flatD_len (f : Nat) : ∀ ds : List Dc, (∀ d ∈ ds, fmD f 0 d = true) → (ds.flatMap (dT (f + 1) 0)).length ≤ 5000 * ctL (f + 1) ds
  | [], _ => by simp
  | d :: t, h => by
    have a := dT_len f 0 d (h d List.mem_cons_self) (by omega)
    have b := flatD_len f t (fun x hx => h x (List.mem_cons_of_mem _ hx))
    rw [List.flatMap_cons, List.length_append, ctL_cons]
    omega
set_option maxHeartbeats 16000000 in
set_option maxRecDepth 20000 in
theorem printR_any (f : Nat) (ds : List Dc) (v : Value) (w : World) (hT : Tabs w) (hP : Pow w) (hf : FitD (f + 1) ds) (ht : TxtD (f + 1) ds) (hc : ctL (f + 1) ds ≤ 800) (h : HeldD (f + 1) w (fun b => b < w.heap.size) v ds) :
    Calls Tryz.prog 18 #[v] w fun e w' => e = .returned (.tuple #[.string (mkB (printL (f + 1) ds).1), .int .i64 (printL (f + 1) ds).2]) ∧ Below w.heap.size w w' := by
  have hFm := formedR_any f ds v w hT hf ht h
  have HT := Lib.hid hT
  have HH := Lib.hid h
  have HFI := Lib.hid hf
  have HP := Lib.hid hP
  have lds := hf.1
  obtain ⟨ad, c, hv⟩ := h.isSlD
  subst hv
  clear hT hP hf ht h
  unfold printL
  by_cases hfm : fmL (f + 1) 0 ds = true
  case neg =>
    have hfm' : fmL (f + 1) 0 ds = false := by simpa using hfm
    rw [hfm'] at hFm ⊢
    rw [if_neg (by decide)]
    clear hfm hfm'
    go_enter Tryz.func18, Tryz.ntmps18
    go_wp2_with fail
    refine hFm.mono ?_
    rintro e w1 ⟨rfl, hb⟩
    clear hFm
    go_wp2_with fail
    go_ret2
    exact ⟨rfl, hb⟩
  rw [if_pos hfm]
  rw [hfm] at hFm
  have HFM : Hid (∀ d ∈ ds, fmD f 0 d = true) := by
    rw [fmL_succ, List.all_eq_true] at hfm
    exact hfm
  have hfl := flatD_len f ds HFM.out
  have hfl0 : (ds.flatMap (dT (f + 1) 0)).length ≤ 4000000 := by omega
  clear hfm hfl hc
  obtain ⟨R, hR⟩ : ∃ R : List UInt8 × Int, (if (wordsL (textL (f + 1) ds)).2.2 = 0 then (textL (f + 1) ds, (0 : Int)) else ([], 4)) = R := ⟨_, rfl⟩
  rw [hR]
  have HR := Lib.hid hR
  clear hR
  go_enter Tryz.func18, Tryz.ntmps18
  go_wp2_with fail
  refine hFm.mono ?_
  rintro e w1 ⟨rfl, hb⟩
  have HB1 := Lib.hid hb
  clear hFm hb
  go_wp2_with fail
  go_loopw [4, 14] (fun s i wq => ∃ q : Nat, q ≤ ds.length ∧ i = .int .i64 (q : Int) ∧ s = .string (mkB (textL (f + 1) (ds.take q))) ∧ Below w.heap.size w wq) (fun _ i _ => ds.length - (intOf i).toNat)
  case atStart => exact ⟨0, by omega, rfl, rfl, HB1.out⟩
  case round =>
    obtain ⟨q, hq, rfl, rfl, hbq⟩ := hrel
    have HBQ := Lib.hid hbq
    have hsw := hbq.size
    clear hbq
    have hml : (textL (f + 1) (ds.take q)).length ≤ 4200000 := by
      have h1 := textL_len (f + 1) (ds.take q)
      have h2 := takeLen (dT (f + 1) 0) ds q
      have h3 : (ds.take q).length ≤ ds.length := by rw [List.length_take]; omega
      omega
    by_cases hqn : q < ds.length
    · obtain ⟨x, hx⟩ : ∃ x, ds[q]? = some x := ⟨_, List.getElem?_eq_getElem hqn⟩
      have hmem := List.mem_of_getElem? hx
      have hq0 : (0 : Int) ≤ (q : Int) := by omega
      have hq1 : (q : Int) < (ds.length : Int) := by omega
      have hwq : IntKind.i64.wrap ((q : Int) + 1) = (q : Int) + 1 := by rw [IntKind.wrap_i64]; omega
      have hlx := memLen (dT (f + 1) 0) hmem
      have htk : ds.take (q + 1) = ds.take q ++ [x] := by rw [List.take_add_one, hx]; rfl
      obtain ⟨g, o, c0, fa, fc, va, vc, ma, mc, ia, ic, hsl, hg, e0, e1, e2, e3, e4, e5, e6, e7, kd⟩ := decl_at HH.out (W := wr) (fun b hb => HBQ.out.block b hb) hx
      obtain ⟨rfl, rfl⟩ : ad = some ⟨g, o, none⟩ ∧ c = c0 := by
        injection hsl with h1 _ h3
        exact ⟨h1, h3⟩
      have hCall := textR f 0 x _ _ _ _ wr (by omega) (HFM.out x hmem) (by omega) (HP.out.below HBQ.out) (HFI.out.2 x hmem) (kd.more fun b hb => by omega)
      rw [show mkB (tb 0) = (⟨#[]⟩ : ByteArray) from rfl] at hCall
      obtain ⟨T, hT⟩ : ∃ T, dT (f + 1) 0 x = T := ⟨_, rfl⟩
      rw [hT] at hlx hCall
      by_cases hq00 : q = 0
      · subst hq00
        have HN : Hid (textL (f + 1) (ds.take (0 + 1)) = T) := by
          refine (?_ : _ = _)
          rw [htk, List.take_zero, List.nil_append, textL_one, hT]
        rw [show mkB (textL (f + 1) (ds.take 0)) = (⟨#[]⟩ : ByteArray) from rfl]
        have s1 := sumS ⟨#[]⟩ (mkB T) 0 (by decide) (by rw [mkB_len]; omega)
        have HS : Hid ((⟨#[]⟩ : ByteArray) ++ mkB T = mkB T) := by
          refine (?_ : _ = _)
          show mkB [] ++ mkB T = _
          rw [← mkB_app, List.nil_append]
        have hng : ¬ ((0 : Nat) : Int) > 0 := by omega
        simp only [Nat.zero_mul, Nat.add_zero] at e0 e1 e2 e3 e4 e5 e6 e7
        clear hT hx kd hsl hg hlx hmem htk
        go_wp2_with fail
        refine hCall.mono ?_
        rintro e W9 ⟨rfl, hb9⟩
        have HB9 := Lib.hid (HBQ.out.trans (hb9.mono hsw))
        clear hCall hb9 e0 e1 e2 e3 e4 e5 e6 e7
        go_wp2_with fail
        go_roundw
        case rel => exact ⟨0 + 1, by omega, by go_num, by rw [HS.out, HN.out], HB9.out⟩
        case measure => simp [intOf]; omega
      · have HN : Hid (textL (f + 1) (ds.take (q + 1)) = textL (f + 1) (ds.take q) ++ ([10] ++ T)) := by
          refine (?_ : _ = _)
          rw [htk, textL_snoc _ _ _ (by intro e; have := congrArg List.length e; rw [List.length_take, List.length_nil] at this; omega), hT]
        obtain ⟨m, hm⟩ : ∃ m, textL (f + 1) (ds.take q) = m := ⟨_, rfl⟩
        rw [hm] at hml HN ⊢
        have y1 : (⟨#[10]⟩ : ByteArray).size = 1 := rfl
        have s1 := sumS (mkB m) ⟨#[10]⟩ 4200000 (by rw [mkB_len]; exact hml) (by rw [y1]; omega)
        have s2 := sumS (mkB m ++ ⟨#[10]⟩) (mkB T) 4200001 (by rw [ByteArray.size_append, mkB_len, y1]; omega) (by rw [mkB_len]; omega)
        have HS : Hid (mkB m ++ ⟨#[10]⟩ ++ mkB T = mkB (m ++ ([10] ++ T))) := by
          refine (?_ : _ = _)
          show mkB m ++ mkB [10] ++ mkB T = _
          rw [← mkB_app, ← mkB_app, List.append_assoc]
        have hgt : (q : Int) > 0 := by omega
        have hgt' : (0 : Int) < (q : Int) := by omega
        clear hT hx kd hsl hg hlx hmem htk hm hq00
        go_wp2_with fail
        refine hCall.mono ?_
        rintro e W9 ⟨rfl, hb9⟩
        have HB9 := Lib.hid (HBQ.out.trans (hb9.mono hsw))
        clear hCall hb9 e0 e1 e2 e3 e4 e5 e6 e7
        go_wp2_with fail
        go_roundw
        case rel => exact ⟨q + 1, by omega, by go_num, by rw [HS.out, HN.out], HB9.out⟩
        case measure => simp [intOf]; omega
    · have hqn' : ¬ (q : Int) < (ds.length : Int) := by omega
      have hqe : ds.take q = ds := List.take_of_length_le (by omega)
      rw [hqe] at hml ⊢
      have hW := wordsR_any (mkB (textL (f + 1) ds)) wr (tabs_below HT.out HBQ.out) (by rw [mkB_len]; omega)
      rw [show (mkB (textL (f + 1) ds)).data.toList = textL (f + 1) ds from by simp [mkB]] at hW
      clear hqe
      generalize textL (f + 1) ds = t at *
      unfold WAns at hW
      by_cases h0 : (wordsL t).2.2 = 0
      · simp only [if_pos h0] at hW
        have HRE : Hid (R = (t, 0)) := by
          refine (?_ : _ = _)
          rw [← HR.out, if_pos h0]
        clear h0 HR
        go_wp2_with fail
        refine hW.mono ?_
        rintro e w5 ⟨⟨v5, rfl, hO⟩, hb5⟩
        have HB5 := Lib.hid (HBQ.out.trans (hb5.mono hsw))
        clear hW hb5
        obtain ⟨ad5, c5, hv5⟩ := ownW_slice hO
        subst hv5
        clear hO
        go_wp2_with fail
        go_ret2
        rw [HRE.out]
        exact ⟨rfl, HB5.out.alloc HB5.out.size _⟩
      · simp only [if_neg h0] at hW
        have HRE : Hid (R = ([], 4)) := by
          refine (?_ : _ = _)
          rw [← HR.out, if_neg h0]
        obtain ⟨er, her⟩ : ∃ er, (wordsL t).2.2 = er := ⟨_, rfl⟩
        rw [her] at hW h0
        have hne : (er != 0) = true := by simpa using h0
        clear h0 HR her
        go_wp2_with fail
        refine hW.mono ?_
        rintro e w5 ⟨rfl, hb5⟩
        have HB5 := Lib.hid (HBQ.out.trans (hb5.mono hsw))
        clear hW hb5
        go_wp2_with fail
        go_ret2
        rw [HRE.out]
        exact ⟨rfl, HB5.out.alloc HB5.out.size _⟩
end Go.Proofs.YtngmimbpakmkiaaGreatDoor
