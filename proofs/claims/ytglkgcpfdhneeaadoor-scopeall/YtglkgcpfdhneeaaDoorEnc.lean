/-
  The other forms of a name, as lists of runes, and their bytes: plain words and facts of this seat. Nothing is proved of the program here.
-/
import Derived.Test.YtglkgcpfdhneeaaDoorRn
import Derived.Lib.RuneBytes
import Derived.Lib.RuneCount
namespace Go.Proofs.YtglkgcpfdhneeaaDoor
set_option linter.unusedVariables false

def isSmall (r : Int) : Bool := decide (97 ≤ r ∧ r ≤ 122)
def isGreat (r : Int) : Bool := decide (65 ≤ r ∧ r ≤ 90)
/-- the bytes of runes -/
def encL (l : List Int) : List UInt8 := l.flatMap Lib.encodeRune
theorem encL_cons (r : Int) (t : List Int) : encL (r :: t) = Lib.encodeRune r ++ encL t := by simp [encL]
theorem enc_small (r : Int) (h : 0 ≤ r) (h1 : r ≤ 127) : Lib.encodeRune r = [UInt8.ofNat r.toNat] := by
  unfold Lib.encodeRune; rw [Lib.encodeRuneZ_one h h1]; rfl
theorem enc_two (r : Int) (h : 128 ≤ r) (h1 : r ≤ 2047) : Lib.encodeRune r = [UInt8.ofNat (192 + r / 64).toNat, UInt8.ofNat (128 + r % 64).toNat] := by
  unfold Lib.encodeRune; rw [Lib.encodeRuneZ_two h h1]; rfl

/-- a rune of one or two bytes -/
def two (r : Int) : Prop := 0 ≤ r ∧ r ≤ 2047
/-! the runes of a name are of one or two bytes, and its other forms' -/
theorem two_of_name {r : Int} (h : nameRune r = true) : two r := by
  unfold nameRune isLetter isDigit at h
  simp only [Bool.or_eq_true, decide_eq_true_iff] at h
  unfold two; omega
theorem name_all {l : List Int} (h : nameOf l = true) : ∀ r ∈ l, nameRune r = true := by
  unfold nameOf at h
  simp only [Bool.and_eq_true, List.all_eq_true] at h
  exact h.2
end Go.Proofs.YtglkgcpfdhneeaaDoor
