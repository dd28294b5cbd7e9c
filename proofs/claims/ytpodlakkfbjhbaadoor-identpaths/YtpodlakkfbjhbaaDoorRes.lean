/-
  The walks over the document's own Scalar, Reserved and Plain: which words are types, which are reserved, and whether a text is a name that isn't.
-/
import Derived.Test.YtpodlakkfbjhbaaDoorNam
namespace Go.Proofs.YtpodlakkfbjhbaaDoor
set_option linter.unusedVariables false
open Go.ChangeShapes Go.WideShapes Go.ChangeAt Go.RowKit

/-- the kind of a type by a word; 0: it is none -/
def scalarOf (l : List UInt8) : Int :=
  if (l == [105, 110, 116, 54, 52]) = true then 1 else if (l == [117, 105, 110, 116, 54, 52]) = true then 2 else if (l == [115, 105, 110, 116, 54, 52]) = true then 3
  else if (l == [98, 111, 111, 108]) = true then 4 else if (l == [115, 116, 114, 105, 110, 103]) = true then 5 else if (l == [98, 121, 116, 101, 115]) = true then 6
  else if (l == [102, 105, 120, 101, 100, 51, 50]) = true then 7 else if (l == [102, 105, 120, 101, 100, 54, 52]) = true then 8 else 0
/-- whether a word is reserved -/
def resOf (l : List UInt8) : Bool :=
  l == [109, 101, 115, 115, 97, 103, 101] || l == [101, 110, 117, 109] || l == [115, 101, 114, 118, 105, 99, 101] || l == [114, 112, 99] || l == [114, 101, 116, 117, 114, 110, 115] || l == [114, 101, 112, 101, 97, 116, 101, 100] || decide (0 < scalarOf l)
theorem retI {a b : Int} (h : a = b) : Ending.returned (.int .i64 a) = .returned (.int .i64 b) := by rw [h]
set_option maxHeartbeats 1000000 in
theorem scalarR_any (s : ByteArray) (w : World) :
    Calls Tryd.prog 26 #[.string s] w fun e w' => e = .returned (.int .i64 (scalarOf s.toList)) ∧ w' = w := by
  go_enter Tryd.func26, Tryd.ntmps26
  go_wp2
  all_goals
    go_ret
    refine ⟨retI ?_, rfl⟩
    unfold scalarOf
    simp [*]
set_option maxHeartbeats 1000000 in
theorem reservedR_any (s : ByteArray) (w : World) :
    Calls Tryd.prog 13 #[.string s] w fun e w' => e = .returned (.bool (resOf s.toList)) ∧ w' = w := by
  have hS := fun W => scalarR_any s W
  unfold resOf
  generalize scalarOf s.toList = k at *
  go_enter Tryd.func13, Tryd.ntmps13
  go_wp2_with (go_at_call 26; refine (hS _).mono ?_; rintro e w' ⟨rfl, rfl⟩)
  all_goals
    go_ret
    refine ⟨retB ?_, rfl⟩
    clear hS
    first
      | (simp [*]; done)
      | simp_all
/-- whether a text is a name that isn't reserved -/
def isPlain (s : ByteArray) : Bool := isName s && !resOf s.toList
set_option maxHeartbeats 1000000 in
theorem plainR_any (s : ByteArray) (w : World) (hT : Tabs w) (h : s.size ≤ 70368744177664) :
    Calls Tryd.prog 30 #[.string s] w fun e w' => e = .returned (.bool (isPlain s)) ∧ Below w.heap.size w w' := by
  have hN := nameR_any s w hT h
  have hR := fun W => reservedR_any s W
  unfold isPlain
  generalize isName s = N at *
  generalize resOf s.toList = R at *
  cases N with
  | false =>
    go_enter Tryd.func30, Tryd.ntmps30
    go_wp2_with fail
    refine hN.mono ?_
    rintro e w1 ⟨rfl, hb⟩
    go_wp2_with fail
    go_ret
    exact ⟨rfl, hb⟩
  | true =>
    go_enter Tryd.func30, Tryd.ntmps30
    go_wp2_with fail
    refine hN.mono ?_
    rintro e w1 ⟨rfl, hb⟩
    go_wp2_with fail
    refine (hR _).mono ?_
    rintro e w2 ⟨rfl, rfl⟩
    go_wp2_with fail
    go_ret
    exact ⟨retB (by simp), hb⟩
end Go.Proofs.YtpodlakkfbjhbaaDoor
