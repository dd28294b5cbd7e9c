/-
  Declarations are alike just if all of both is; stripped, they have no places, and all else is as it was: the walk.
-/
import Derived.Test.YtngmimbpakmkiaaGreatDoorAw5z
import Derived.Test.YtngmimbpakmkiaaGreatDoorEqDz
import Derived.Test.YtngmimbpakmkiaaGreatDoorStDz
import Derived.Test.YtngmimbpakmkiaaGreatDoorThOz
import Derived.Test.YtngmimbpakmkiaaGreatDoorPsJz
import Derived.Test.YtngmimbpakmkiaaGreatDoorRsTz
import Derived.Test.YtngmimbpakmkiaaGreatDoorUpDz
namespace Go.Proofs.YtngmimbpakmkiaaGreatDoor
set_option linter.unusedVariables false
open Go.ChangeShapes Go.WideShapes Go.ChangeAt Go.RowKit

theorem held_on {f : Nat} {w W : World} {S : Nat → Prop} {v : Value} {ds : List Dc} (h : HeldD f w S v ds) (hS : ∀ b, S b → b < w.heap.size) (hb : Below w.heap.size w W) : HeldD f W (fun b => b < W.heap.size) v ds :=
  HeldD.more (S := S) (fun b hb' => by have := hS b hb'; have := hb.size; omega) (HeldD.old (fun b hb' => hb.block b (hS b hb')) h)
set_option maxHeartbeats 16000000 in
set_option maxRecDepth 20000 in
theorem parseSame_any (v0 v1 : Value) (F : Nat) (ds0 ds1 : List Dc) (w : World) (hE : Errs w) (hH0 : HeldD F w (fun b => b < w.heap.size) v0 ds0) (hF0 : FitW F ds0) (hH1 : HeldD F w (fun b => b < w.heap.size) v1 ds1) (hF1 : FitW F ds1) :
    Calls Tryz.prog 3 #[v0, v1] w fun e w' => e = .returned (.bool true) ∧ Below w.heap.size w w' := by
  have hA := fun W (hb : Below w.heap.size w W) => awake_any W (errs_below hE hb)
  have HH0 : Hid (∀ W, Below w.heap.size w W → HeldD F W (fun b => b < W.heap.size) v0 ds0) := fun W hb => held_on hH0 (fun _ h => h) hb
  have HH1 : Hid (∀ W, Below w.heap.size w W → HeldD F W (fun b => b < W.heap.size) v1 ds1) := fun W hb => held_on hH1 (fun _ h => h) hb
  have hS0 := fun W (hb : Below w.heap.size w W) => smallX_any F ds0 v0 W hF0 (HH0.out W hb)
  have hS1 := fun W (hb : Below w.heap.size w W) => smallX_any F ds1 v1 W hF1 (HH1.out W hb)
  obtain ⟨a0, c0, hv0⟩ := hH0.isSlD
  obtain ⟨a1, c1, hv1⟩ := hH1.isSlD
  clear hE hH0 hF0 hH1 hF1
  subst hv0 hv1
  go_enter Tryz.func3, Tryz.ntmps3
  go_wp2_with fail
  refine (hA w (Below.refl _ _)).mono ?_
  rintro e w1 ⟨rfl, hb1⟩
  have HB1 := Lib.hid hb1
  clear hb1
  go_wp2_with fail
  refine (hS0 w1 HB1.out).mono ?_
  rintro e w2 ⟨⟨b, rfl, hbi⟩, hb2⟩
  have HB2 := Lib.hid (HB1.out.trans (hb2.mono HB1.out.size))
  have HBI := Lib.hid hbi
  clear hb2 hbi hS0
  cases b
  · go_wp2_with fail
    refine (hA w2 HB2.out).mono ?_
    rintro e w3 ⟨rfl, hb3⟩
    have HB3 := Lib.hid (HB2.out.trans (hb3.mono HB2.out.size))
    clear hb3 hA
    go_wp2_with fail
    go_ret
    exact ⟨rfl, HB3.out⟩
  obtain ⟨hfit0, htxt0⟩ := HBI.out rfl
  have HFIT0 := Lib.hid hfit0
  have HTXT0 := Lib.hid htxt0
  clear hfit0 htxt0 HBI
  go_wp2_with fail
  refine (hS1 w2 HB2.out).mono ?_
  rintro e w3 ⟨⟨b, rfl, hbi⟩, hb3⟩
  have HB3 := Lib.hid (HB2.out.trans (hb3.mono HB2.out.size))
  have HBI := Lib.hid hbi
  clear hb3 hbi hS1
  cases b
  · go_wp2_with fail
    refine (hA w3 HB3.out).mono ?_
    rintro e w4 ⟨rfl, hb4⟩
    have HB4 := Lib.hid (HB3.out.trans (hb4.mono HB3.out.size))
    clear hb4 hA
    go_wp2_with fail
    go_ret
    exact ⟨rfl, HB4.out⟩
  obtain ⟨hfit1, htxt1⟩ := HBI.out rfl
  have HFIT1 := Lib.hid hfit1
  clear hfit1 htxt1 HBI hA
  have hT := theirs_any F ds0 _ w3 HFIT0.out (HH0.out w3 HB3.out)
  go_wp2_with fail
  refine hT.mono ?_
  rintro e w4 ⟨ad4, c4, rfl, hH4, hb4⟩
  have HB4 := Lib.hid (HB3.out.trans (hb4.mono HB3.out.size))
  have hT4 := theirs_any F ds1 _ w4 HFIT1.out (HH1.out w4 HB4.out)
  have HH4 := Lib.hid hH4
  clear hT hH4 hb4
  go_wp2_with fail
  refine hT4.mono ?_
  rintro e w5 ⟨ad5, c5, rfl, hH5, hb5⟩
  have HB5 := Lib.hid (HB4.out.trans (hb5.mono HB4.out.size))
  have hQ := sameP_any F ds0 ds1 _ _ w5 HFIT0.out HFIT1.out (held_on HH4.out (fun b hb => hb.2) hb5) (HeldD.more (fun b hb => hb.2) hH5)
  clear hT4 hH5 hb5 HH4
  go_wp2_with fail
  refine hQ.mono ?_
  rintro e w6 ⟨b1, rfl, hb1i, hb6⟩
  have HB6 := Lib.hid (HB5.out.trans (hb6.mono HB5.out.size))
  have hQ2 := same_any F ds0 ds1 _ _ w6 HFIT0.out HFIT1.out (HH0.out w6 HB6.out) (HH1.out w6 HB6.out)
  have HI1 := Lib.hid hb1i
  clear hQ hb6 hb1i
  go_wp2_with fail
  refine hQ2.mono ?_
  rintro e w7 ⟨b2, rfl, hb2i, hb7⟩
  have HB7 := Lib.hid (HB6.out.trans (hb7.mono HB6.out.size))
  have hbb : b2 = b1 := by
    have h1 := HI1.out
    cases b1 <;> cases b2 <;> simp_all
  subst hbb
  have hbe : (b2 == b2) = true := by simp
  clear hQ2 hb7 hb2i HI1
  have hT7 := theirs_any F ds0 _ w7 HFIT0.out (HH0.out w7 HB7.out)
  go_wp2_with fail
  refine hT7.mono ?_
  rintro e w8 ⟨ad8, c8, rfl, hH8, hb8⟩
  have HB8 := Lib.hid (HB7.out.trans (hb8.mono HB7.out.size))
  have hT8 := theirs_any F ds0 _ w8 HFIT0.out (HH0.out w8 HB8.out)
  have HH8 := Lib.hid hH8
  clear hT7 hH8 hb8
  go_wp2_with fail
  refine hT8.mono ?_
  rintro e w9 ⟨ad9, c9, rfl, hH9, hb9⟩
  have HB9 := Lib.hid (HB8.out.trans (hb9.mono HB8.out.size))
  have hQ9 := sameP_any F ds0 ds0 _ _ w9 HFIT0.out HFIT0.out (held_on HH8.out (fun b hb => hb.2) hb9) (HeldD.more (fun b hb => hb.2) hH9)
  clear hT8 hH9 hb9 HH8
  go_wp2_with fail
  refine hQ9.mono ?_
  rintro e w10 ⟨b3, rfl, hb3i, hb10⟩
  have hb3t : b3 = true := hb3i.2 rfl
  subst hb3t
  have HB10 := Lib.hid (HB9.out.trans (hb10.mono HB9.out.size))
  clear hQ9 hb10 hb3i
  have hT10 := theirs_any F ds0 _ w10 HFIT0.out (HH0.out w10 HB10.out)
  go_wp2_with fail
  refine hT10.mono ?_
  rintro e w11 ⟨ad11, c11, rfl, hH11, hb11⟩
  have HB11 := Lib.hid (HB10.out.trans (hb11.mono HB10.out.size))
  have hSt := strip_any F ds0 _ w11 HFIT0.out HTXT0.out (HeldD.more (fun b hb => hb.2) hH11)
  clear hT10 hH11 hb11
  go_wp2_with fail
  refine hSt.mono ?_
  rintro e w12 ⟨a12, k12, rfl, hH12, hb12, rfl, L12, ho12, hr12⟩
  have HB12 := Lib.hid (HB11.out.trans (hb12.mono HB11.out.size))
  have HFS := Lib.hid (strip_fit F ds0 HFIT0.out)
  have hO := ours_any F (stripL F ds0) _ w12 HFS.out (HeldD.more (fun b hb => hb.2) hH12)
  clear hSt hH12 hb12 ho12 hr12
  go_wp2_with fail
  refine hO.mono ?_
  rintro e w13 ⟨ad13, c13, rfl, hH13, hb13⟩
  have HB13 := Lib.hid (HB12.out.trans (hb13.mono HB12.out.size))
  have HH13 := Lib.hid hH13
  have hR := stripR_any F ds0 _ w13 HFIT0.out (HH0.out w13 HB13.out)
  clear hO hH13 hb13
  go_wp2_with fail
  refine hR.mono ?_
  rintro e w14 ⟨ad14, c14, rfl, hH14, hb14⟩
  have HB14 := Lib.hid (HB13.out.trans (hb14.mono HB13.out.size))
  have hQ14 := same_any F (stripL F ds0) (stripL F ds0) _ _ w14 HFS.out HFS.out (held_on HH13.out (fun b hb => hb.2) hb14) (HeldD.more (fun b hb => hb.2) hH14)
  clear hR hH14 hb14 HH13
  go_wp2_with fail
  refine hQ14.mono ?_
  rintro e w15 ⟨b4, rfl, hb4i, hb15⟩
  have hb4t : b4 = true := hb4i.2 rfl
  subst hb4t
  have HB15 := Lib.hid (HB14.out.trans (hb15.mono HB14.out.size))
  clear hQ14 hb15 hb4i
  go_wp2_with fail
  go_ret
  first
    | exact ⟨rfl, HB15.out⟩
    | exact ⟨retB (by simp), HB15.out⟩
end Go.Proofs.YtngmimbpakmkiaaGreatDoor
