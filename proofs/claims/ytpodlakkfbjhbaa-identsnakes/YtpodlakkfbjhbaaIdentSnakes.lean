/-
  IdentSnakes (P3.2): for every text the law answers true; no condition.
-/
import Derived.Test.YtpodlakkfbjhbaaRows
import Derived.WalkKit
import Derived.ProofKit
import Derived.OpenShut
import Derived.ShutString
import Derived.SizedLaws
import Derived.ChangeOld
import Derived.Below
import Derived.Deep.RegionWith
import Derived.Deep.RegionLaw
import Derived.Deep.DeepCutAuto
import Derived.Deep.RegionHeldLaw
import Derived.Test.YtpodlakkfbjhbaaLaw
import Derived.Test.YtpodlakkfbjhbaaDSn
import Derived.Test.YtpodlakkfbjhbaaSnM
namespace Go.Proofs.Ytpodlakkfbjhbaa.identSnakes
open Go.ChangeShapes Go.WideShapes Go.ChangeAt Go.RowKit
open Go.ChangeMaps (open_string shut_string)
open Go.Shelf
set_option linter.unusedVariables false

theorem own : ownKnob Try.prog.godebug = none := by kernel_rfl
theorem laidOut : laidOutB Try.prog = true := by kernel_rfl

set_option maxHeartbeats 4000000 in
theorem walk (s0 : ByteArray) (w : World) (w0 : s0.size ≤ 9223372036854775807) :
    Calls Try.prog 4 #[.string s0] w fun e w' => e = .returned (.bool true) ∧ Below w.heap.size w w' := by
  have hA := fun W => awake_any W
  have hC := fun s W h => camel_any s W h
  have hS := fun s W h => snake_any s W h
  by_cases h3 : s0.size ≤ 3000
  · go_enter Try.func4, Try.ntmps4
    go_wp2_with fail
    refine (hA w).mono ?_
    rintro e w1 ⟨rfl, hb1⟩
    have hF := few_any w1.heap.size 1 s0 (w1.alloc (.cells #[.string s0] 9)) (by simp) w0
    rw [decide_eq_true h3] at hF
    go_wp2_with fail
    refine hF.mono ?_
    rintro e w2 ⟨rfl, hw2⟩
    have hb2 : Below w.heap.size w w2 := by rw [hw2]; exact hb1.alloc hb1.size _
    clear hF hw2 hb1 hA
    have hC1 : Calls Try.prog 10 #[.string s0] w2 fun e w' => e = .returned (.string ⟨(camS s0).toArray⟩) ∧ Below w2.heap.size w2 w' := hC s0 w2 (by omega)
    have hl1 := camS_len s0
    have hS1 : ∀ W, Calls Try.prog 11 #[.string ⟨(camS s0).toArray⟩] W fun e w' => e = .returned (.string ⟨(snaS ⟨(camS s0).toArray⟩).toArray⟩) ∧ Below W.heap.size W w' := fun W => hS _ W (by show (camS s0).toArray.size ≤ _; simp; omega)
    have hl2 := snaS_len ⟨(camS s0).toArray⟩
    have hC2 : ∀ W, Calls Try.prog 10 #[.string ⟨(snaS ⟨(camS s0).toArray⟩).toArray⟩] W fun e w' => e = .returned (.string ⟨(camS ⟨(snaS ⟨(camS s0).toArray⟩).toArray⟩).toArray⟩) ∧ Below W.heap.size W w' := fun W => hC _ W (by show (snaS _).toArray.size ≤ _; simp; omega)
    have HK : Hid (∀ b c, camS s0 = b :: c → snaS ⟨(camS s0).toArray⟩ ≠ [] → 65 ≤ b.toNat → b.toNat ≤ 90 → camS ⟨(snaS ⟨(camS s0).toArray⟩).toArray⟩ = camS s0) := fun b c h1 h2 h3 h4 => cam_sna_cam s0 b c h1 h2 h3 h4
    clear hC hS
    generalize camS ⟨(snaS ⟨(camS s0).toArray⟩).toArray⟩ = c2 at *
    generalize snaS ⟨(camS s0).toArray⟩ = t at *
    generalize camS s0 = c at *
    go_wp2_with fail
    refine hC1.mono ?_
    rintro e w3 ⟨rfl, hb3⟩
    go_wp2_with fail
    refine (hS1 w3).mono ?_
    rintro e w4 ⟨rfl, hb4⟩
    have hb : Below w.heap.size w w4 := hb2.trans ((hb3.trans (hb4.mono hb3.size)).mono hb2.size)
    clear hb2 hb3 hb4 hC1 hS1
    cases c with
    | nil =>
      go_wp2_with fail
      go_ret
      exact ⟨rfl, hb⟩
    | cons b c =>
      cases t with
      | nil =>
        go_wp2_with fail
        go_ret
        exact ⟨rfl, hb⟩
      | cons x t =>
        have hb0 : ∀ (p : 0 < (ByteArray.mk (b :: c).toArray).size), ((ByteArray.mk (b :: c).toArray)[0]'p).toNat = b.toNat := fun _ => rfl
        have HB0 : Hid (∀ (p : 0 < (ByteArray.mk (b :: c).toArray).size), ((ByteArray.mk (b :: c).toArray)[0]'p).toNat = b.toNat) := hb0
        clear hb0
        go_wp2_with fail
        all_goals first
          | (go_ret; exact ⟨rfl, hb⟩)
          | (have hq := ‹(65 : Int) ≤ _ ∧ _›
             rw [HB0.out] at hq
             obtain rfl : c2 = b :: c := HK.out b c rfl (by simp) (by omega) (by omega)
             refine (hC2 w4).mono ?_
             rintro e w5 ⟨rfl, hb5⟩
             go_wp2_with fail
             go_ret
             exact ⟨retB (by simp), hb.trans (hb5.mono hb.size)⟩)
  · go_enter Try.func4, Try.ntmps4
    go_wp2_with fail
    refine (hA w).mono ?_
    rintro e w1 ⟨rfl, hb1⟩
    have hF := few_any w1.heap.size 1 s0 (w1.alloc (.cells #[.string s0] 9)) (by simp) w0
    rw [decide_eq_false h3] at hF
    go_wp2_with fail
    refine hF.mono ?_
    rintro e w2 ⟨rfl, hw2⟩
    have hb2 : Below w.heap.size w w2 := by rw [hw2]; exact hb1.alloc hb1.size _
    clear hF hw2
    go_wp2_with fail
    refine (hA w2).mono ?_
    rintro e w3 ⟨rfl, hb3⟩
    go_wp2_with fail
    go_ret
    exact ⟨rfl, hb2.trans (hb3.mono hb2.size)⟩

set_option maxRecDepth 100000 in
theorem lifted (os : Os) (started : os.Started) (H : Type) (enc : TypeId × Value → H) :
    ReturnsInHanded {} Try.checked os 4 .any (Rows.identSnakesSpec.pre6 enc Try.prog Try.f4 Rows.identSnakesRow.domain false) (Rows.identSnakesSpec.post enc Try.prog Try.f4 false true false false) := by
  refine returnsInHanded_of_change_sized (C := Try.checked) own started (by kernel_rfl) Try.func4
    (ChangeSpec.witness6 (enc := enc) (C := Try.checked) false ⟨#[], #[.string ⟨#[]⟩], []⟩ 8 (by kernel_rfl) (by kernel_rfl) (by kernel_rfl) (by kernel_rfl)) ?_
  intro W base args ds gs before hval0 hW hcnd hsz0 _
  have hval : ∀ (j : Nat) t v, Try.f4.params[j]? = some t → args[j]? = some v → Value.okWide Try.prog W .any base t v := hval0
  have hsz : (DataW.weightsEach Try.prog (Try.f4.params.toList ++ Rows.identSnakesSpec.plain.varTypes Try.prog) (ds ++ gs)).all (· ≤ reachBytes) = true := hsz0
  clear hsz0
  have hW' := hW
  obtain ⟨p, q, hA0, hV, rfl, hfz, hnd⟩ := hW
  have hA : DataW.TrodAll enc Try.prog W 0 (fun _ => true) true Try.f4.params.toList args.toList ds p := hA0
  rw [Try.params4] at hA hval hsz
  obtain ⟨v0, vs0, d0, ds0, p0, q0, hargs, rfl, rfl, h0, r0⟩ := trodAll_cons hA
  obtain ⟨rfl, rfl, rfl⟩ := trodAll_nil r0
  obtain rfl : args = #[v0] := by cases args; simp_all
  obtain ⟨rfl, rfl⟩ := trodVars_none hV
  have k0 := h0
  have lt0 : ∀ x ∈ p0, x.block < W.heap.size := by obtain ⟨m, hm⟩ := k0; exact DataW.trod_lt m _ _ _ hm
  obtain ⟨s0, rfl, _, _, ws0⟩ := open_string Try.underlying9 (hval 0 9 v0 rfl rfl) h0
  have w0 : s0.size ≤ 9223372036854775807 := by unfold maxLen at ws0; omega
  clear hA0 hval0
  refine (walk s0 W w0).mono fun e W' ⟨he, bel⟩ => ?_
  subst he
  exact ⟨_, rfl, _, _, _, [], _, [], hW', trodAll_mk1 (shut_bool Try.underlying4 _), (trodAll_cons_mk (Below.trod laidOut (by kernel_rfl) (of_decide_eq_true (by kernel_rfl)) k0 bel lt0) trodAll_mk0), rfl, bel.frame _, fun h => by cases h⟩

theorem over : Rows.identSnakesRow.holds Try.pinned (OpenSpec.ofChange Rows.identSnakesSpec) :=
  OpenClaim.holds_of_wide 4 Try.f4 rfl rfl rfl rfl rfl rfl rfl ⟨rfl, rfl, rfl, rfl, rfl⟩ rfl rfl rfl rfl rfl (by kernel_rfl) Try.func4 (by kernel_rfl)
    (of_decide_eq_true (by kernel_rfl)) (by unfold Func.isWrapper; first | (rw [if_pos (by decide +kernel)]; kernel_rfl) | (rw [if_neg (by decide +kernel)]; exact ⟨rfl, rfl⟩))
    (fun os started H enc _ => lifted os started H enc)

theorem proved : Rows.IdentSnakesSaid := over
end Go.Proofs.Ytpodlakkfbjhbaa.identSnakes
namespace Go.Proofs.Ytpodlakkfbjhbaa
theorem identSnakes_holds : Rows.IdentSnakesSaid := identSnakes.proved
end Go.Proofs.Ytpodlakkfbjhbaa
