/-
  Any declarations have the text that the document says, or none: the walk.
-/
import Derived.Test.YtngmimbpakmkiaaGreatDoorPiRz
import Derived.Test.YtngmimbpakmkiaaGreatDoorThOz
import Derived.Test.YtngmimbpakmkiaaGreatDoorUpDz
namespace Go.Proofs.YtngmimbpakmkiaaGreatDoor
set_option linter.unusedVariables false
open Go.ChangeShapes Go.WideShapes Go.ChangeAt Go.RowKit

theorem held_on6 {f : Nat} {w W : World} {S : Nat → Prop} {v : Value} {ds : List Dc} (h : HeldD f w S v ds) (hS : ∀ b, S b → b < w.heap.size) (hb : Below w.heap.size w W) : HeldD f W (fun b => b < W.heap.size) v ds :=
  HeldD.more (S := S) (fun b hb' => by have := hS b hb'; have := hb.size; omega) (HeldD.old (fun b hb' => hb.block b (hS b hb')) h)
set_option maxHeartbeats 16000000 in
set_option maxRecDepth 20000 in
theorem printFiles_any (v : Value) (f : Nat) (ds : List Dc) (w : World) (hT : Tabs w) (hE : Errs w) (hP : Pow w) (hH : HeldD (f + 1) w (fun b => b < w.heap.size) v ds) (hF : FitW (f + 1) ds) :
    Calls Tryz.prog 4 #[v] w fun e w' => e = .returned (.bool true) ∧ Below w.heap.size w w' := by
  have hA := fun W (hb : Below w.heap.size w W) => awake6_any W (errs_below hE hb) (hP.below hb)
  have HE := Lib.hid hE
  have HP := Lib.hid hP
  have HT := Lib.hid hT
  have HHL : Hid (∀ W, Below w.heap.size w W → HeldD (f + 1) W (fun b => b < W.heap.size) v ds) := fun W hb => held_on6 hH (fun _ h => h) hb
  have hS := fun W (hb : Below w.heap.size w W) => smallY_any (f + 1) ds v W hF (HHL.out W hb)
  obtain ⟨ad0, c0, hv0⟩ := hH.isSlD
  clear hE hP hH hF hT
  subst hv0
  go_enter Tryz.func4, Tryz.ntmps4
  go_wp2_with fail
  refine (hA w (Below.refl _ _)).mono ?_
  rintro e w1 ⟨rfl, hb1⟩
  have HB1 := Lib.hid hb1
  clear hb1
  go_wp2_with fail
  refine (hS w1 HB1.out).mono ?_
  rintro e w2 ⟨⟨b, rfl, hbi⟩, hb2⟩
  have HB2 := Lib.hid (HB1.out.trans (hb2.mono HB1.out.size))
  have HBI := Lib.hid hbi
  clear hb2 hbi hS
  cases b
  · go_wp2_with fail
    refine (hA w2 HB2.out).mono ?_
    rintro e w3 ⟨rfl, hb3⟩
    have HB3 := Lib.hid (HB2.out.trans (hb3.mono HB2.out.size))
    clear hb3 hA
    go_wp2_with fail
    go_ret
    exact ⟨rfl, HB3.out⟩
  obtain ⟨hfit, htxt, hcnt⟩ := HBI.out rfl
  have HFIT := Lib.hid hfit
  have HTXT := Lib.hid htxt
  have HCNT := Lib.hid hcnt
  clear hA hfit htxt HBI hcnt
  have hT2 := theirs_any (f + 1) ds _ w2 HFIT.out (HHL.out w2 HB2.out)
  go_wp2_with fail
  refine hT2.mono ?_
  rintro e w3 ⟨ad3, c3, rfl, hH3, hb3⟩
  have HB3 := Lib.hid (HB2.out.trans (hb3.mono HB2.out.size))
  have hPr := printP_any f ds _ w3 (errs_below HE.out HB3.out) (HP.out.below HB3.out).tab HFIT.out HTXT.out (HeldD.more (fun b hb => hb.2) hH3)
  obtain ⟨R, hR⟩ : ∃ R, printL (f + 1) ds = R := ⟨_, rfl⟩
  have HR := Lib.hid hR
  rw [hR] at hPr
  clear hT2 hH3 hb3 hR
  go_wp2_with fail
  refine hPr.mono ?_
  rintro e w4 ⟨rfl, hb4⟩
  have HB4 := Lib.hid (HB3.out.trans (hb4.mono HB3.out.size))
  have hQ := printR_any f ds _ w4 (tabs_below HT.out HB4.out) (HP.out.below HB4.out) HFIT.out HTXT.out HCNT.out (HHL.out w4 HB4.out)
  rw [HR.out] at hQ
  clear hPr hb4
  go_wp2_with fail
  refine hQ.mono ?_
  rintro e w5 ⟨rfl, hb5⟩
  have HB5 := Lib.hid (HB4.out.trans (hb5.mono HB4.out.size))
  clear hQ hb5
  have hT5 := theirs_any (f + 1) ds _ w5 HFIT.out (HHL.out w5 HB5.out)
  go_wp2_with fail
  refine hT5.mono ?_
  rintro e w6 ⟨ad6, c6, rfl, hH6, hb6⟩
  have HB6 := Lib.hid (HB5.out.trans (hb6.mono HB5.out.size))
  have hF6 := formedP_any (f + 1) ds _ w6 HFIT.out HTXT.out (HeldD.more (fun b hb => hb.2) hH6)
  clear hT5 hH6 hb6
  go_wp2_with fail
  refine hF6.mono ?_
  rintro e w7 ⟨rfl, hb7⟩
  have HB7 := Lib.hid (HB6.out.trans (hb7.mono HB6.out.size))
  have hF7 := formedR_any f ds _ w7 (tabs_below HT.out HB7.out) HFIT.out HTXT.out (HHL.out w7 HB7.out)
  clear hF6 hb7
  go_wp2_with fail
  refine hF7.mono ?_
  rintro e w8 ⟨rfl, hb8⟩
  have HB8 := Lib.hid (HB7.out.trans (hb8.mono HB7.out.size))
  clear hF7 hb8
  generalize fmL (f + 1) 0 ds = bb at *
  cases bb
  all_goals
    go_wp2_with fail
    go_ret
    exact ⟨rfl, HB8.out⟩
end Go.Proofs.YtngmimbpakmkiaaGreatDoor
