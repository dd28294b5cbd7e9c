/-
  What is read of any text is printed, and read again, and is the same, but for places; and printed again it is the same text: the walk.
-/
import Derived.Test.YtngmimbpakmkiaaGreatDoorAw6z
import Derived.Test.YtngmimbpakmkiaaGreatDoorEqDz
import Derived.Test.YtngmimbpakmkiaaGreatDoorStDz
import Derived.Test.YtngmimbpakmkiaaGreatDoorGmC
import Derived.Test.YtngmimbpakmkiaaGreatDoorGmD
import Derived.Test.YtngmimbpakmkiaaGreatDoorDpOz
namespace Go.Proofs.YtngmimbpakmkiaaGreatDoor
set_option linter.unusedVariables false
open Go.ChangeShapes Go.WideShapes Go.ChangeAt Go.RowKit

theorem file_err (l : List UInt8) (h : (fileL l).2.2 ≠ 0) : (fileL l).1 = [] := by
  unfold fileL at h ⊢
  split
  · rename_i h0
    rw [if_pos h0] at h
    unfold fileW at h ⊢
    simp only at h ⊢
    split
    · rename_i h1
      rw [if_pos h1] at h
      exact absurd rfl h
    · rfl
  · rfl
/-- what is printed of what is read is read as the same, but for places, and printed as it was -/
theorem reads_math (l : List UInt8) (h : (fileL l).2.2 = 0) : (printL 10 (fileL l).1 = ([], 4)) ∨
    ∃ t m, printL 10 (fileL l).1 = (t, 0) ∧ fileL t = (m, (0, 0), 0) ∧ stripL 10 m = stripL 10 (fileL l).1 ∧ printL 10 m = (t, 0) ∧ t.length ≤ 20000 := by
  have hfm := file_fm l h
  generalize (fileL l).1 = ds at *
  by_cases hw : (wordsL (textL 10 ds)).2.2 = 0
  · right
    obtain ⟨m, hm, hD⟩ := file_text 9 ds hfm hw
    have hp : printL 10 ds = (textL 10 ds, 0) := by unfold printL; rw [if_pos hfm, if_pos hw]
    refine ⟨textL 10 ds, m, hp, hm, hD.strip 10, by rw [printL_DLs hD, hp], ?_⟩
    unfold wordsL at hw
    split at hw
    · cases hw
    · omega
  · left
    unfold printL
    rw [if_pos hfm, if_neg hw]
set_option maxHeartbeats 8000000 in
set_option maxRecDepth 20000 in
theorem file_plain (s : ByteArray) (ds : List Dc) (pp : Int × Int) (er : Int) (h : fileL s.data.toList = (ds, pp, er)) (hs : s.size ≤ 9223372036854775807) (W : World) (hE : Errs W) :
    Calls Tryz.prog 21 #[.string s] W fun e w' => (∃ (ad : Option Addr) (c : Nat) (pl pc : Int), e = .returned (.tuple #[.slice ad ds.length c, .agg #[.int .i64 pl, .int .i64 pc], .int .i64 er]) ∧ HeldD 10 w' (fun b => b < w'.heap.size) (.slice ad ds.length c) ds) ∧ Below W.heap.size W w' := by
  have hF := fileD_any s W hE hs
  rw [h] at hF
  exact hF.mono fun e w' ⟨⟨ad, c, pl, pc, h1, h2, _⟩, h4⟩ => ⟨⟨ad, c, pl, pc, h1, h2⟩, h4⟩
set_option maxHeartbeats 8000000 in
set_option maxRecDepth 20000 in
theorem printReads_any (s0 : ByteArray) (w : World) (hE : Errs w) (hP : Pow w) (w0 : s0.size ≤ 9223372036854775807) :
    Calls Tryz.prog 6 #[.string s0] w fun e w' => e = .returned (.bool true) ∧ Below w.heap.size w w' := by
  have hA := awake6_any w hE hP
  have hF := fun ds pp er h => file_plain s0 ds pp er h w0
  have hfit := fileL_fit s0.data.toList (words_few _) 10
  have htxt := fileL_txt s0.data.toList 10
  have HFE := Lib.hid (file_err s0.data.toList)
  have HM := Lib.hid (reads_math s0.data.toList)
  have HFM := Lib.hid (file_fm s0.data.toList)
  generalize fileL s0.data.toList = FL at *
  obtain ⟨ds, pp, er⟩ := FL
  have hF := hF ds pp er rfl
  have hfit : FitD 10 ds := hfit
  have htxt : TxtD 10 ds := htxt
  have HFE : Hid (er ≠ 0 → ds = []) := HFE.out
  have HM : Hid (er = 0 → (printL 10 ds = ([], 4)) ∨ ∃ t m, printL 10 ds = (t, 0) ∧ fileL t = (m, (0, 0), 0) ∧ stripL 10 m = stripL 10 ds ∧ printL 10 m = (t, 0) ∧ t.length ≤ 20000) := HM.out
  have HFM : Hid (er = 0 → fmL 10 0 ds = true) := HFM.out
  have HE := Lib.hid hE
  have HP := Lib.hid hP
  have HFIT := Lib.hid hfit
  have HTXT := Lib.hid htxt
  clear hE hP hfit htxt
  obtain ⟨n, hn⟩ : ∃ n, ds.length = n := ⟨_, rfl⟩
  have HN := Lib.hid hn
  by_cases he : er = 0
  case neg =>
    have hd0 := HFE.out he
    have hne : (er != 0) = true := by simpa using he
    have hn0 : n = 0 := by rw [← hn, hd0]; rfl
    subst hn0
    go_enter Tryz.func6, Tryz.ntmps6
    go_wp2_with fail
    refine hA.mono ?_
    rintro e w1 ⟨rfl, hb1⟩
    have hE1 := errs_below HE.out hb1
    have HB1 := Lib.hid hb1
    clear hA hb1
    go_wp2_with fail
    refine (hF w1 hE1).mono ?_
    rintro e w2 ⟨⟨ad, c, pl, pc, rfl, hH⟩, hb2⟩
    have HB2 := Lib.hid (HB1.out.trans (hb2.mono HB1.out.size))
    have HB3 := Lib.hid (HB2.out.alloc HB2.out.size (.cells #[.int .i64 pl, .int .i64 pc] 38))
    clear hF hH hb2 hE1 he
    rw [hn]
    clear hn hd0
    go_wp2_with fail
    go_ret
    exact ⟨rfl, HB3.out⟩
  have HE0 := Lib.hid he
  subst he
  have HM2 := Lib.hid (HM.out rfl)
  have HFM2 := Lib.hid (HFM.out rfl)
  clear HM HFM HFE HE0 hn HN
  go_enter Tryz.func6, Tryz.ntmps6
  go_wp2_with fail
  refine hA.mono ?_
  rintro e w1 ⟨rfl, hb1⟩
  have hE1 := errs_below HE.out hb1
  have HB1 := Lib.hid hb1
  clear hA hb1
  go_wp2_with fail
  refine (hF w1 hE1).mono ?_
  rintro e w2 ⟨⟨ad, c, pl, pc, rfl, hH⟩, hb2⟩
  have hb12 := HB1.out.trans (hb2.mono HB1.out.size)
  have HB2 := Lib.hid (hb12.alloc hb12.size (.cells #[.int .i64 pl, .int .i64 pc] 38))
  have HHA : Hid (HeldD 10 (w2.alloc (.cells #[.int .i64 pl, .int .i64 pc] 38)) (fun b => b < (w2.alloc (.cells #[.int .i64 pl, .int .i64 pc] 38)).heap.size) (.slice ad ds.length c) ds) :=
    HeldD.more (S := fun b => b < w2.heap.size) (fun b hb => by simp; omega) (HeldD.old (w := w2) (fun b hb => alloc_heap_old _ _ _ hb) hH)
  clear hF hH hb2 hE1 hb12
  go_upto_region 4 with fail
  generalize w2.alloc (.cells #[.int .i64 pl, .int .i64 pc] 38) = V2 at *
  have hPr := printP_any 9 ds _ V2 (errs_below HE.out HB2.out) (HP.out.below HB2.out).tab HFIT.out HTXT.out HHA.out
  rcases HM2.out with hm | ⟨t, m, hm1, hm2, hm3, hm4, hm5⟩
  · rw [show printL (9 + 1) ds = ([], 4) from hm] at hPr
    clear hm
    go_wp2_with fail
    refine hPr.mono ?_
    rintro e w3 ⟨rfl, hb3⟩
    have HB3 := Lib.hid (HB2.out.trans (hb3.mono HB2.out.size))
    clear hPr hb3
    rw [show mkB (([] : List UInt8), (4 : Int)).1 = (⟨#[]⟩ : ByteArray) from rfl]
    go_wp2_with fail
    go_ret
    exact ⟨rfl, HB3.out⟩
  rw [show printL (9 + 1) ds = (t, 0) from hm1] at hPr
  have hF2 := file_plain (mkB t) m (0, 0) 0 hm2 (by rw [mkB_size]; omega)
  have hfit2 := fileL_fit t (words_few _) 10
  have htxt2 := fileL_txt t 10
  rw [hm2] at hfit2 htxt2
  have HFIT2 : Hid (FitD 10 m) := hfit2
  have HTXT2 : Hid (TxtD 10 m) := htxt2
  have HM3 := Lib.hid hm3
  have HM4 := Lib.hid hm4
  have HFA := Lib.hid (strip_fit 10 ds HFIT.out)
  have HFB := Lib.hid (strip_fit 10 m HFIT2.out)
  clear hm1 hm2 hm3 hm4 hfit2 htxt2
  go_wp2_with fail
  refine hPr.mono ?_
  rintro e w3 ⟨rfl, hb3⟩
  have HB3 := Lib.hid (HB2.out.trans (hb3.mono HB2.out.size))
  have HH3 : Hid (HeldD 10 w3 (fun b => b < w3.heap.size) (.slice ad ds.length c) ds) := HeldD.more (S := fun b => b < V2.heap.size) (fun b hb => by have := hb3.size; omega) (HeldD.old (w := V2) (fun b hb => hb3.block b hb) HHA.out)
  have hE3 := errs_below HE.out HB3.out
  clear hPr hb3 HHA HB2
  go_wp2_with fail
  refine (hF2 w3 hE3).mono ?_
  rintro e w4 ⟨⟨ad4, c4, pl4, pc4, rfl, hH4⟩, hb4⟩
  have hb34 := HB3.out.trans (hb4.mono HB3.out.size)
  have HB4 := Lib.hid (hb34.alloc hb34.size (.cells #[.int .i64 pl4, .int .i64 pc4] 38))
  have HHA4 : Hid (HeldD 10 (w4.alloc (.cells #[.int .i64 pl4, .int .i64 pc4] 38)) (fun b => b < (w4.alloc (.cells #[.int .i64 pl4, .int .i64 pc4] 38)).heap.size) (.slice ad4 m.length c4) m) :=
    HeldD.more (S := fun b => b < w4.heap.size) (fun b hb => by simp; omega) (HeldD.old (w := w4) (fun b hb => alloc_heap_old _ _ _ hb) hH4)
  have HH4 : Hid (HeldD 10 (w4.alloc (.cells #[.int .i64 pl4, .int .i64 pc4] 38)) (fun b => b < (w4.alloc (.cells #[.int .i64 pl4, .int .i64 pc4] 38)).heap.size) (.slice ad ds.length c) ds) :=
    HeldD.more (S := fun b => b < w3.heap.size) (fun b hb => by have := hb4.size; simp; omega) (HeldD.old (w := w3) (fun b hb => by rw [alloc_heap_old _ _ _ (by have := hb4.size; omega)]; exact hb4.block b hb) HH3.out)
  clear hF2 hH4 hb4 hE3 hb34 HH3
  go_upto_region 10 with fail
  generalize w4.alloc (.cells #[.int .i64 pl4, .int .i64 pc4] 38) = V4 at *
  have hPr4 := printP_any 9 m _ V4 (errs_below HE.out HB4.out) (HP.out.below HB4.out).tab HFIT2.out HTXT2.out HHA4.out
  rw [show printL (9 + 1) m = (t, 0) from HM4.out] at hPr4
  go_wp2_with fail
  refine hPr4.mono ?_
  rintro e w5 ⟨rfl, hb5⟩
  have HB5 := Lib.hid (HB4.out.trans (hb5.mono HB4.out.size))
  have HHA5 : Hid (HeldD 10 w5 (fun b => b < w5.heap.size) (.slice ad4 m.length c4) m) := HeldD.more (S := fun b => b < V4.heap.size) (fun b hb => by have := hb5.size; omega) (HeldD.old (w := V4) (fun b hb => hb5.block b hb) HHA4.out)
  have HH5 : Hid (HeldD 10 w5 (fun b => b < w5.heap.size) (.slice ad ds.length c) ds) := HeldD.more (S := fun b => b < V4.heap.size) (fun b hb => by have := hb5.size; omega) (HeldD.old (w := V4) (fun b hb => hb5.block b hb) HH4.out)
  have hFo := formedP_any 10 ds _ w5 HFIT.out HTXT.out HH5.out
  rw [HFM2.out] at hFo
  clear hPr4 hb5 HHA4 HH4 HB4 HB3
  go_wp2_with fail
  refine hFo.mono ?_
  rintro e w6 ⟨rfl, hb6⟩
  have HB6 := Lib.hid (HB5.out.trans (hb6.mono HB5.out.size))
  have HHA6 : Hid (HeldD 10 w6 (fun b => b < w6.heap.size) (.slice ad4 m.length c4) m) := HeldD.more (S := fun b => b < w5.heap.size) (fun b hb => by have := hb6.size; omega) (HeldD.old (w := w5) (fun b hb => hb6.block b hb) HHA5.out)
  have HH6 : Hid (HeldD 10 w6 (fun b => b < w6.heap.size) (.slice ad ds.length c) ds) := HeldD.more (S := fun b => b < w5.heap.size) (fun b hb => by have := hb6.size; omega) (HeldD.old (w := w5) (fun b hb => hb6.block b hb) HH5.out)
  have hSA := strip_any 10 ds _ w6 HFIT.out HTXT.out HH6.out
  clear hFo hb6 HHA5 HH5 HB5
  go_wp2_with fail
  refine hSA.mono ?_
  rintro e w7 ⟨a7, k7, rfl, hH7, hb7, rfl, L7, ho7, hr7⟩
  have hz7 := hb7.size
  have HH7 := Lib.hid hH7
  have HB7 := Lib.hid hb7
  have hSB := strip_any 10 m _ w7 HFIT2.out HTXT2.out (HeldD.more (S := fun b => b < w6.heap.size) (fun b hb => by omega) (HeldD.old (w := w6) (fun b hb => hb7.block b hb) HHA6.out))
  clear hSA hH7 hb7 hr7 ho7 HHA6 HH6
  go_wp2_with fail
  refine hSB.mono ?_
  rintro e w8 ⟨a8, k8, rfl, hH8, hb8, rfl, L8, ho8, hr8⟩
  have hz8 := hb8.size
  have HC : Hid (Calls Tryz.prog 10 #[.slice (some ⟨w6.heap.size, 0, none⟩) ds.length k7, .slice (some ⟨w7.heap.size, 0, none⟩) m.length k8] w8 fun e w' => e = .returned (.bool true) ∧ Below w.heap.size w w') := by
    have hww := HB6.out.size
    have g5 : HeldD 10 w8 (fun b => b < w8.heap.size) (.slice (some ⟨w6.heap.size, 0, none⟩) ds.length k7) (stripL 10 ds) :=
      HeldD.more (S := fun b => w6.heap.size ≤ b ∧ b < w7.heap.size) (fun b hb => by have := hb.2; omega) (HeldD.old (w := w7) (fun b hb => hb8.block b hb.2) HH7.out)
    have g6 : HeldD 10 w8 (fun b => b < w8.heap.size) (.slice (some ⟨w7.heap.size, 0, none⟩) m.length k8) (stripL 10 m) :=
      HeldD.more (S := fun b => w7.heap.size ≤ b ∧ b < w8.heap.size) (fun b hb => hb.2) hH8
    refine (sameP_any 10 _ _ _ _ w8 HFA.out HFB.out g5 g6).mono ?_
    rintro e w9 ⟨b, rfl, hbi, hbw⟩
    have hb : b = true := hbi.2 HM3.out.symm
    subst hb
    have hb9 : Below w.heap.size w w8 := (HB6.out.trans (HB7.out.mono hww)).trans (hb8.mono (by omega))
    exact ⟨rfl, hb9.trans (hbw.mono hb9.size)⟩
  clear hSB hH8 hb8 hr8 ho8 HH7 HB7 HB6
  go_wp2_with fail
  refine HC.out.mono ?_
  rintro e w9 ⟨rfl, hbw⟩
  have htt : ((mkB t).toList == (mkB t).toList) = true := by simp
  go_wp2_with fail
  go_ret
  first
    | exact ⟨rfl, hbw⟩
    | exact ⟨retB (by simp), hbw⟩
end Go.Proofs.YtngmimbpakmkiaaGreatDoor
