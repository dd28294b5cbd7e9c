/-
  Places change nothing of a text: the walk.
-/
import Derived.Test.YtngmimbpakmkiaaGreatDoorAw6z
import Derived.Test.YtngmimbpakmkiaaGreatDoorStDz
import Derived.Test.YtngmimbpakmkiaaGreatDoorGmC
import Derived.Test.YtngmimbpakmkiaaGreatDoorThOz
import Derived.Test.YtngmimbpakmkiaaGreatDoorSlWz
namespace Go.Proofs.YtngmimbpakmkiaaGreatDoor
set_option linter.unusedVariables false
open Go.ChangeShapes Go.WideShapes Go.ChangeAt Go.RowKit

set_option maxHeartbeats 64000000 in
set_option maxRecDepth 20000 in
theorem printPlaces_any (v : Value) (f : Nat) (ds : List Dc) (w : World) (hE : Errs w) (hP : Pow w) (hH : HeldD (f + 1) w (fun b => b < w.heap.size) v ds) (hF : FitW (f + 1) ds) :
    Calls Tryz.prog 7 #[v] w fun e w' => e = .returned (.bool true) ∧ Below w.heap.size w w' := by
  have hA := fun W (hb : Below w.heap.size w W) => awake6_any W (errs_below hE hb) (hP.below hb)
  have HE := Lib.hid hE
  have HP := Lib.hid hP
  have HHL : Hid (∀ W, Below w.heap.size w W → HeldD (f + 1) W (fun b => b < W.heap.size) v ds) := fun W hb => HeldD.more (S := fun b => b < w.heap.size) (fun b hb' => by have := hb.size; omega) (HeldD.old (fun b hb' => hb.block b hb') hH)
  have HDP := Lib.hid (dp_held hH)
  have hS := fun W (hb : Below w.heap.size w W) => smallX_any (f + 1) ds v W hF (HHL.out W hb)
  obtain ⟨ad0, c0, hv0⟩ := hH.isSlD
  clear hE hP hH hF
  subst hv0
  go_enter Tryz.func7, Tryz.ntmps7
  go_wp2_with fail
  refine (hA w (Below.refl _ _)).mono ?_
  rintro e w1 ⟨rfl, hb1⟩
  have HB1 := Lib.hid hb1
  clear hb1
  go_wp2_with fail
  refine (hS w1 HB1.out).mono ?_
  rintro e w2 ⟨⟨b, rfl, hbi⟩, hb2⟩
  have HB2 := Lib.hid (HB1.out.trans (hb2.mono HB1.out.size))
  have HBI := Lib.hid hbi
  clear hb2 hbi hS
  cases b
  · go_wp2_with fail
    refine (hA w2 HB2.out).mono ?_
    rintro e w3 ⟨rfl, hb3⟩
    have HB3 := Lib.hid (HB2.out.trans (hb3.mono HB2.out.size))
    clear hb3 hA
    go_wp2_with fail
    go_ret
    exact ⟨rfl, HB3.out⟩
  obtain ⟨hfit, htxt⟩ := HBI.out rfl
  have HFIT := Lib.hid hfit
  have HTXT := Lib.hid htxt
  have HPS := Lib.hid (printL_strip (f + 1) ds HDP.out)
  have HFS := Lib.hid (strip_fit (f + 1) ds hfit)
  have HTS := Lib.hid (strip_txt (f + 1) ds htxt)
  clear hA hfit htxt HBI
  have hT2 := theirs_any (f + 1) ds _ w2 HFIT.out (HHL.out w2 HB2.out)
  go_wp2_with fail
  refine hT2.mono ?_
  rintro e w3 ⟨ad3, c3, rfl, hH3, hb3⟩
  have HB3 := Lib.hid (HB2.out.trans (hb3.mono HB2.out.size))
  have hPr := printP_any f ds _ w3 (errs_below HE.out HB3.out) (HP.out.below HB3.out).tab HFIT.out HTXT.out (HeldD.more (fun b hb => hb.2) hH3)
  clear hT2 hH3 hb3
  generalize printL (f + 1) ds = PR at *
  go_wp2_with fail
  refine hPr.mono ?_
  rintro e w4 ⟨rfl, hb4⟩
  have HB4 := Lib.hid (HB3.out.trans (hb4.mono HB3.out.size))
  have hT4 := theirs_any (f + 1) ds _ w4 HFIT.out (HHL.out w4 HB4.out)
  clear hPr hb4
  go_wp2_with fail
  refine hT4.mono ?_
  rintro e w5 ⟨ad5, c5, rfl, hH5, hb5⟩
  have HB5 := Lib.hid (HB4.out.trans (hb5.mono HB4.out.size))
  have hSt := strip_any (f + 1) ds _ w5 HFIT.out HTXT.out (HeldD.more (fun b hb => hb.2) hH5)
  clear hT4 hH5 hb5
  go_wp2_with fail
  refine hSt.mono ?_
  rintro e w6 ⟨a6, k6, rfl, hH6, hb6, rfl, L6, ho6, hr6⟩
  have HB6 := Lib.hid (HB5.out.trans (hb6.mono HB5.out.size))
  have hPr6 := printP_any f (stripL (f + 1) ds) _ w6 (errs_below HE.out HB6.out) (HP.out.below HB6.out).tab HFS.out HTS.out (HeldD.more (fun b hb => hb.2) hH6)
  rw [HPS.out] at hPr6
  clear hSt hH6 hb6 ho6 hr6
  go_wp2_with fail
  refine hPr6.mono ?_
  rintro e w7 ⟨rfl, hb7⟩
  have HB7 := Lib.hid (HB6.out.trans (hb7.mono HB6.out.size))
  clear hPr6 hb7
  have htt : ((mkB PR.1).toList == (mkB PR.1).toList) = true := by simp
  have hii : (PR.2 == PR.2) = true := by simp
  go_wp2_with fail
  go_ret
  first
    | exact ⟨rfl, HB7.out⟩
    | exact ⟨retB (by simp), HB7.out⟩
end Go.Proofs.YtngmimbpakmkiaaGreatDoor
