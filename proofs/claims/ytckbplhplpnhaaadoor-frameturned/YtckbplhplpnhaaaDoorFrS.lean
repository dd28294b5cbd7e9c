/-
  The walks over bytes.Equal and Same, by the program and by the document's own.
-/
import Derived.Test.YtckbplhplpnhaaaDoorFrG
import Derived.Test.YtckbplhplpnhaaaDoorStr
namespace Go.Proofs.YtckbplhplpnhaaaDoor
set_option linter.unusedVariables false
open Go.ChangeShapes Go.WideShapes Go.ChangeAt Go.RowKit

/-- whether all of both is alike -/
def sameF (f g : Fr) : Bool := decide (f.kind = g.kind ∧ f.client = g.client ∧ f.token = g.token ∧ f.attempt = g.attempt ∧ f.floor = g.floor ∧ f.method = g.method ∧ f.deadline = g.deadline ∧ f.status = g.status ∧ f.pay = g.pay)
theorem sameF_refl (f : Fr) : sameF f f = true := by unfold sameF; simp
set_option maxHeartbeats 1000000 in
theorem equal_any (a a2 : Option Addr) (n c n2 c2 : Nat) (xs ys : List Int) (w : World) (h : IsB w a n xs) (h2 : IsB w a2 n2 ys) :
    Calls Tryd.prog 25 #[.slice a n c, .slice a2 n2 c2] w fun e w' => e = .returned (.bool (decide (xs = ys))) ∧ w' = w := by
  have r1 := run_str w a n c xs h
  have r2 := run_str w a2 n2 c2 ys h2
  have hs := str_inj xs ys (isB_bt h) (isB_bt h2)
  clear h h2
  obtain ⟨s, hs1⟩ : ∃ s, strOfNums xs = s := ⟨_, rfl⟩
  obtain ⟨t, ht1⟩ : ∃ t, strOfNums ys = t := ⟨_, rfl⟩
  rw [hs1] at r1 hs
  rw [ht1] at r2 hs
  obtain ⟨b, hb⟩ : ∃ b, decide (xs = ys) = b := ⟨_, rfl⟩
  rw [hb] at hs ⊢
  clear hs1 ht1 hb
  go_enter Tryd.func25, Tryd.ntmps25
  go_wp2
  go_ret
  exact ⟨rfl, rfl⟩
end Go.Proofs.YtckbplhplpnhaaaDoor
