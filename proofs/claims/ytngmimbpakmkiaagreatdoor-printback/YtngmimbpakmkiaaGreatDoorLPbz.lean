/-
  What is printed is read, and is the same, but for places: the walk.
-/
import Derived.Test.YtngmimbpakmkiaaGreatDoorLPrz
import Derived.Test.YtngmimbpakmkiaaGreatDoorLPsz
import Derived.Test.YtngmimbpakmkiaaGreatDoorLPpz
namespace Go.Proofs.YtngmimbpakmkiaaGreatDoor
set_option linter.unusedVariables false
open Go.ChangeShapes Go.WideShapes Go.ChangeAt Go.RowKit

theorem fitD_up {w : World} {S : Nat → Prop} : ∀ {f g : Nat}, f ≤ g → ∀ {ds : List Dc} {v : Value}, FitD f ds → HeldD f w S v ds → FitD g ds := by
  intro f
  induction f with
  | zero =>
    intro g hg ds v _ h
    rw [h.1]
    cases g with
    | zero => trivial
    | succ g => exact ⟨by simp, fun d hd => by cases hd⟩
  | succ f ih =>
    intro g hg ds v hf h
    obtain ⟨g, rfl⟩ : ∃ g', g = g' + 1 := ⟨g - 1, by omega⟩
    refine ⟨hf.1, fun d hd => ?_⟩
    obtain ⟨h1, h2, h3, h4⟩ := hf.2 d hd
    refine ⟨h1, h2, h3, ?_⟩
    obtain ⟨ad, c, _, _, h0 | ⟨gg, o, _, _, hk⟩⟩ := h
    · rw [h0] at hd; cases hd
    · obtain ⟨j, hj⟩ := List.getElem?_of_mem hd
      obtain ⟨fs, vs, ms, ins, _, _, _, _, hin⟩ := hk j d hj
      exact ih (by omega) h4 hin
/-- what print answers, as the law asks it -/
theorem back_math (f : Nat) (ds : List Dc) (hd : Dp (f + 1) ds) : ((printL (f + 1) ds).2 ≠ 0 ∧ (printL (f + 1) ds).1 = []) ∨
    ∃ t m, printL (f + 1) ds = (t, 0) ∧ fileL t = (m, (0, 0), 0) ∧ t.length ≤ 20000 ∧ (Dp 10 m → stripL 10 m = stripL (f + 1) ds) := by
  by_cases hfm : fmL (f + 1) 0 ds = true
  · by_cases hw : (wordsL (textL (f + 1) ds)).2.2 = 0
    · right
      obtain ⟨m, hm, hD⟩ := file_text f ds hfm hw
      refine ⟨textL (f + 1) ds, m, by unfold printL; rw [if_pos hfm, if_pos hw], hm, ?_, fun h10 => ?_⟩
      · unfold wordsL at hw
        split at hw
        · cases hw
        · omega
      · rw [← strip_deep 10 (max 10 (f + 1)) m h10 (by omega), hD.strip, strip_deep (f + 1) (max 10 (f + 1)) ds hd (by omega)]
    · left
      unfold printL
      rw [if_pos hfm, if_neg hw]
      exact ⟨by decide, rfl⟩
  · left
    unfold printL
    rw [if_neg hfm]
    exact ⟨by decide, rfl⟩
set_option maxHeartbeats 16000000 in
set_option maxRecDepth 20000 in
theorem printBack_any (v : Value) (f : Nat) (ds : List Dc) (w : World) (hE : Errs w) (hP : Pow w) (hH : HeldD (f + 1) w (fun b => b < w.heap.size) v ds) (hF : FitW (f + 1) ds) :
    Calls Tryz.prog 5 #[v] w fun e w' => e = .returned (.bool true) ∧ Below w.heap.size w w' := by
  have hA := fun W (hb : Below w.heap.size w W) => awake6_any W (errs_below hE hb) (hP.below hb)
  have HE := Lib.hid hE
  have HP := Lib.hid hP
  have HHL : Hid (∀ W, Below w.heap.size w W → HeldD (f + 1) W (fun b => b < W.heap.size) v ds) := fun W hb => held_on hH (fun _ h => h) hb
  have HBM := Lib.hid (back_math f ds (dp_held hH))
  have hS := fun W (hb : Below w.heap.size w W) => smallX_any (f + 1) ds v W hF (HHL.out W hb)
  obtain ⟨ad0, c0, hv0⟩ := hH.isSlD
  clear hE hP hH hF
  subst hv0
  go_enter Tryz.func5, Tryz.ntmps5
  go_wp2_with fail
  refine (hA w (Below.refl _ _)).mono ?_
  rintro e w1 ⟨rfl, hb1⟩
  have HB1 := Lib.hid hb1
  clear hb1
  go_wp2_with fail
  refine (hS w1 HB1.out).mono ?_
  rintro e w2 ⟨⟨b, rfl, hbi⟩, hb2⟩
  have HB2 := Lib.hid (HB1.out.trans (hb2.mono HB1.out.size))
  have HBI := Lib.hid hbi
  clear hb2 hbi hS
  cases b
  · go_wp2_with fail
    refine (hA w2 HB2.out).mono ?_
    rintro e w3 ⟨rfl, hb3⟩
    have HB3 := Lib.hid (HB2.out.trans (hb3.mono HB2.out.size))
    clear hb3 hA
    go_wp2_with fail
    go_ret
    exact ⟨rfl, HB3.out⟩
  obtain ⟨hfit, htxt⟩ := HBI.out rfl
  have HFIT := Lib.hid hfit
  have HTXT := Lib.hid htxt
  clear hA hfit htxt HBI
  have hT2 := theirs_any (f + 1) ds _ w2 HFIT.out (HHL.out w2 HB2.out)
  go_wp2_with fail
  refine hT2.mono ?_
  rintro e w3 ⟨ad3, c3, rfl, hH3, hb3⟩
  have HB3 := Lib.hid (HB2.out.trans (hb3.mono HB2.out.size))
  have hPr := printP_any f ds _ w3 (errs_below HE.out HB3.out) (HP.out.below HB3.out).tab HFIT.out HTXT.out (HeldD.more (fun b hb => hb.2) hH3)
  clear hT2 hH3 hb3
  rcases HBM.out with ⟨hm1, hm2⟩ | ⟨t, m, hm1, hm2, hm3, hm4⟩
  · rw [hm2] at hPr
    obtain ⟨er, her⟩ : ∃ er, (printL (f + 1) ds).2 = er := ⟨_, rfl⟩
    rw [her] at hPr hm1
    have hne : (er != 0) = true := by simpa using hm1
    clear hm1 hm2 her HBM
    go_wp2_with fail
    refine hPr.mono ?_
    rintro e w4 ⟨rfl, hb4⟩
    have HB4 := Lib.hid (HB3.out.trans (hb4.mono HB3.out.size))
    clear hPr hb4
    rw [show mkB ([] : List UInt8) = (⟨#[]⟩ : ByteArray) from rfl]
    go_wp2_with fail
    go_ret
    exact ⟨rfl, HB4.out⟩
  rw [hm1] at hPr
  have hF2 := file_plain (mkB t) m (0, 0) 0 hm2 (by rw [mkB_size]; omega)
  have hfit2 := fileL_fit t (words_few _) 10
  rw [hm2] at hfit2
  have HFIT2 : Hid (FitD 10 m) := hfit2
  have HM4 := Lib.hid hm4
  clear hm1 hm2 hm3 hm4 hfit2 HBM
  go_wp2_with fail
  refine hPr.mono ?_
  rintro e w4 ⟨rfl, hb4⟩
  have HB4 := Lib.hid (HB3.out.trans (hb4.mono HB3.out.size))
  clear hPr hb4
  go_wp2_with fail
  refine (hF2 w4 (errs_below HE.out HB4.out)).mono ?_
  rintro e w5 ⟨⟨ad5, c5, pl, pc, rfl, hH5⟩, hb5⟩
  have hb45 := HB4.out.trans (hb5.mono HB4.out.size)
  have HB5 := Lib.hid (hb45.alloc hb45.size (.cells #[.int .i64 pl, .int .i64 pc] 38))
  have HST := Lib.hid (HM4.out (dp_held hH5))
  have HH5 : Hid (HeldD 10 (w5.alloc (.cells #[.int .i64 pl, .int .i64 pc] 38)) (fun b => b < (w5.alloc (.cells #[.int .i64 pl, .int .i64 pc] 38)).heap.size) (.slice ad5 m.length c5) m) :=
    held_on hH5 (fun _ h => h) ((Below.refl _ w5).alloc (Nat.le_refl _) _)
  clear hF2 hH5 hb5 hb45
  go_upto_region 7 with fail
  generalize w5.alloc (.cells #[.int .i64 pl, .int .i64 pc] 38) = V5 at *
  have hO := ours_any 10 m _ V5 HFIT2.out HH5.out
  go_wp2_with fail
  refine hO.mono ?_
  rintro e w6 ⟨ad6, c6, rfl, hH6, hb6⟩
  have HB6 := Lib.hid (HB5.out.trans (hb6.mono HB5.out.size))
  have hR6 := stripR_any 10 m _ w6 HFIT2.out (HeldD.more (fun b hb => hb.2) hH6)
  clear hO hH6 hb6 HH5
  go_wp2_with fail
  refine hR6.mono ?_
  rintro e w7 ⟨ad7, c7, rfl, hH7, hb7⟩
  have HB7 := Lib.hid (HB6.out.trans (hb7.mono HB6.out.size))
  have HH7 := Lib.hid hH7
  have hR7 := stripR_any (f + 1) ds _ w7 HFIT.out (HHL.out w7 HB7.out)
  clear hR6 hH7 hb7
  go_wp2_with fail
  refine hR7.mono ?_
  rintro e w8 ⟨ad8, c8, rfl, hH8, hb8⟩
  have HB8 := Lib.hid (HB7.out.trans (hb8.mono HB7.out.size))
  have g1 := held_on HH7.out (fun b hb => hb.2) hb8
  have g2 : HeldD (f + 1) w8 (fun b => b < w8.heap.size) (.slice ad8 ds.length c8) (stripL (f + 1) ds) := HeldD.more (fun b hb => hb.2) hH8
  have hQ := same_any (max 10 (f + 1)) (stripL 10 m) (stripL (f + 1) ds) _ _ w8 (fitD_up (by omega) (strip_fit 10 m HFIT2.out) g1) (fitD_up (by omega) (strip_fit (f + 1) ds HFIT.out) g2) (HeldD.upTo (by omega) g1) (HeldD.upTo (by omega) g2)
  clear hR7 hH8 hb8 g1 g2 HH7
  go_wp2_with fail
  refine hQ.mono ?_
  rintro e w9 ⟨b4, rfl, hb4i, hb9⟩
  have hb4t : b4 = true := hb4i.2 HST.out
  subst hb4t
  have HB9 := Lib.hid (HB8.out.trans (hb9.mono HB8.out.size))
  clear hQ hb9 hb4i
  go_wp2_with fail
  go_ret
  exact ⟨rfl, HB9.out⟩
end Go.Proofs.YtngmimbpakmkiaaGreatDoor
