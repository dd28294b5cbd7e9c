/-
  The walk over the document's own Next.
-/
import Derived.Test.YtblebbmnlbmgiaaTmT
namespace Go.Proofs.Ytblebbmnlbmgiaa
set_option linter.unusedVariables false
open Go.ChangeShapes Go.WideShapes Go.ChangeAt Go.RowKit

set_option maxHeartbeats 8000000 in
theorem nextR_any (rb : Nat) (now : Int) (L : List (Nat × Int)) (ok : Nat → Prop) (w : World) (hR : HeldR w ok rb L) (hO : OrdL L) (hk : ∀ x ∈ L, x.1 < 18446744073709551616) (hok : ∀ b, w.heap.size ≤ b → ok b) (hL : L.length ≤ 900000) :
    Calls Try.prog 13 #[ptr rb, .int .i64 now] w fun e w' => e = .returned (.tuple #[.int .u64 (nextL L now).1, .bool (nextL L now).2.1]) ∧ HeldR w' ok rb (nextL L now).2.2 ∧ w.grownBy w' (some rb) := by
  have HR := Lib.hid hR
  obtain ⟨ao, c, c0, f0, ho, _⟩ := hR
  have hS := ho.slT
  cases L with
  | nil =>
    unfold ptr
    go_enter Try.func13, Try.ntmps13
    go_wp2_with fail
    go_ret2
    exact ⟨rfl, HR.out, World.grownBy.refl _ _⟩
  | cons x r =>
    obtain ⟨g, o, rfl, r0, r1⟩ := hS.at (i := 0) (x := x) rfl
    rw [Nat.zero_mul, Nat.add_zero] at r0 r1
    have hlen : (x :: r).length = r.length + 1 := rfl
    rw [hlen] at c0
    clear ho hS
    by_cases hd : x.2 ≤ now
    · have hst := stopR_any rb x.1 (x :: r) ok w HR.out hO (hk x List.mem_cons_self) hok (by omega)
      rw [due_some hO (show (x.1, x.2) ∈ x :: r by simp), stop_head hO] at hst
      rw [nextL_yes hd]
      have hd2 : ¬ now < x.2 := by omega
      unfold ptr at *
      go_enter Try.func13, Try.ntmps13
      go_wp2_with fail
      refine hst.mono ?_
      rintro e W ⟨rfl, h1, h2⟩
      have H1 := Lib.hid h1
      have H2 := Lib.hid h2
      clear h1 h2
      go_wp2_with fail
      go_ret2
      exact ⟨rfl, H1.out, H2.out⟩
    · rw [nextL_no hd]
      have hd2 : now < x.2 := by omega
      clear hd
      unfold ptr
      go_enter Try.func13, Try.ntmps13
      go_wp2_with fail
      go_ret2
      exact ⟨rfl, HR.out, World.grownBy.refl _ _⟩
end Go.Proofs.Ytblebbmnlbmgiaa
