/-
  The runes of a text, and which of them make a name: plain words of this seat. Nothing is proved of the program here.
-/
import Derived.WalkKit
import Derived.ProofKit
import Derived.Below
import Derived.Laws.RangeAny
import Derived.Laws.IdiomStrings
import Derived.Lib.Strings
namespace Go.Proofs.YthlcnofpgmpinaaDoor
set_option linter.unusedVariables false
open Go.ChangeShapes Go.WideShapes Go.ChangeAt Go.RowKit

theorem len_data (s : ByteArray) : s.data.toList.length = s.size := by first | exact Lib.size_eq s | exact (Lib.size_eq s).symm
theorem at_data (s : ByteArray) (k : Nat) (h : k < s.size) : s.data.toList[k]? = some (s[k]'h) := by
  rw [List.getElem?_eq_getElem (by rw [len_data]; exact h)]; rfl
theorem head_data (s : ByteArray) (h : 0 < s.size) : s.data.toList = s[0]'h :: s.data.toList.drop 1 := by
  have := List.drop_eq_getElem_cons (l := s.data.toList) (i := 0) (by rw [len_data]; exact h)
  rw [List.drop_zero] at this
  exact this
/-- the runes from a place on -/
def rns (s : ByteArray) : Nat → Nat → List Int
  | 0, _ => []
  | f + 1, i => if i < s.size then ((Utf8.decode s i).1 : Int) :: rns s f (i + (Utf8.decode s i).2) else []
/-- the runes of a text -/
def runes (s : ByteArray) : List Int := rns s s.size 0
theorem runesFrom_rns (s : ByteArray) : ∀ (b i : Nat) (acc : Array Value), Conv.runesFrom s b i acc = acc ++ ((rns s b i).map (Value.int .i32)).toArray
  | 0, i, acc => by simp [Conv.runesFrom, rns]
  | b + 1, i, acc => by
    unfold Conv.runesFrom rns
    split
    · show Conv.runesFrom s b (i + (Utf8.decode s i).2) (acc.push (.int .i32 (Int.ofNat (Utf8.decode s i).1))) = _
      rw [runesFrom_rns s b]
      simp
    · simp
theorem runes_eq (s : ByteArray) : Conv.runesFrom s s.size 0 #[] = ((runes s).map (Value.int .i32)).toArray := by
  rw [runesFrom_rns]; simp [runes]
theorem rns_len (s : ByteArray) : ∀ b i, (rns s b i).length ≤ b
  | 0, i => by simp [rns]
  | b + 1, i => by
    unfold rns
    split
    · have := rns_len s b (i + (Utf8.decode s i).2); simp; omega
    · simp
theorem runes_len (s : ByteArray) : (runes s).length ≤ s.size := rns_len s _ _
theorem rns_step (s : ByteArray) (b i : Nat) (h : i < s.size) : rns s (b + 1) i = ((Utf8.decode s i).1 : Int) :: rns s b (i + (Utf8.decode s i).2) := by
  rw [rns, if_pos h]
theorem rns_end (s : ByteArray) (b i : Nat) (h : ¬ i < s.size) : rns s b i = [] := by
  cases b with
  | zero => rfl
  | succ b => rw [rns, if_neg h]
theorem width_pos (s : ByteArray) (pos : Nat) (h : pos < s.size) : 1 ≤ (Utf8.decode s pos).2 := by
  by_cases ha : (s[pos]'h).toNat < 128
  · rw [decode_ascii s pos h ha]
    exact Nat.le_refl _
  · exact (decode_high s pos h (by omega)).2

/-- whether a rune is a letter -/
def isLetter (r : Int) : Bool := decide ((97 ≤ r ∧ r ≤ 122) ∨ (65 ≤ r ∧ r ≤ 90) ∨ (913 ≤ r ∧ r ≤ 969))
def isDigit (r : Int) : Bool := decide (48 ≤ r ∧ r ≤ 57)
theorem retB {a b : Bool} (h : a = b) : Ending.returned (.bool a) = .returned (.bool b) := by rw [h]
/-- whether a rune may stand in a name -/
def nameRune (r : Int) : Bool := isLetter r || isDigit r || decide (r = 95)
/-- whether runes are a name -/
def nameOf (l : List Int) : Bool := decide (1 ≤ l.length ∧ l.length ≤ 40) && isLetter (l.headD 0) && l.all nameRune
theorem all_drop {l : List Int} {k : Nat} {z : Int} (h : l[k]? = some z) (p : Int → Bool) : (l.drop k).all p = (p z && (l.drop (k + 1)).all p) := by
  have hlt := (List.getElem?_eq_some_iff.1 h).1
  rw [List.drop_eq_getElem_cons hlt, List.all_cons]
  rw [(List.getElem?_eq_some_iff.1 h).2]

/-- whether a rune may stand in a name, at its first place or behind it -/
def fitsAt (first : Bool) (r : Int) : Bool := isLetter r || (!first && (decide (r = 95) || isDigit r))
/-- whether runes go on as a name behind so many -/
def okFrom : Nat → List Int → Bool
  | acc, [] => decide (0 < acc)
  | acc, r :: t => decide (acc < 40) && fitsAt (acc == 0) r && okFrom (acc + 1) t
theorem nameRune_fits (r : Int) : nameRune r = fitsAt false r := by
  unfold nameRune fitsAt
  generalize isLetter r = a; generalize isDigit r = b; generalize decide (r = 95) = c
  cases a <;> cases b <;> cases c <;> rfl
theorem okFrom_pos : ∀ (l : List Int) (acc : Nat), 0 < acc → okFrom acc l = (decide (acc + l.length ≤ 40 ∨ l = []) && l.all nameRune)
  | [], acc, h => by simp [okFrom, h]
  | r :: t, acc, h => by
    have h0 : (acc == 0) = false := by simp; omega
    rw [okFrom, okFrom_pos t (acc + 1) (by omega), h0, ← nameRune_fits, List.all_cons]
    have e : (decide (acc < 40) && decide (acc + 1 + t.length ≤ 40 ∨ t = [])) = decide (acc + (r :: t).length ≤ 40 ∨ r :: t = []) := by
      rw [Bool.eq_iff_iff]
      simp only [Bool.and_eq_true, decide_eq_true_iff, List.length_cons, reduceCtorEq, or_false]
      constructor
      · rintro ⟨a, b | b⟩
        · omega
        · subst b; simp; omega
      · intro a; exact ⟨by omega, .inl (by omega)⟩
    rw [← e]
    generalize decide (acc < 40) = a; generalize decide (acc + 1 + t.length ≤ 40 ∨ t = []) = b; generalize nameRune r = c; generalize t.all nameRune = d
    cases a <;> cases b <;> cases c <;> cases d <;> rfl
theorem okFrom_name (l : List Int) : okFrom 0 l = nameOf l := by
  cases l with
  | nil => simp [okFrom, nameOf]
  | cons r t =>
    rw [okFrom, okFrom_pos t 1 (by omega)]
    unfold nameOf
    have e1 : fitsAt (0 == 0) r = isLetter r := by unfold fitsAt; simp
    rw [e1]
    have e2 : decide (1 ≤ (r :: t).length ∧ (r :: t).length ≤ 40) = decide (1 + t.length ≤ 40 ∨ t = []) := by
      rw [Bool.eq_iff_iff]
      simp only [decide_eq_true_iff, List.length_cons]
      constructor
      · intro a; exact .inl (by omega)
      · rintro (a | a)
        · omega
        · subst a; simp
    rw [e2, List.all_cons]
    have e3 : isLetter r = true → nameRune r = true := fun h => by unfold nameRune; rw [h]; rfl
    simp only [List.headD_cons]
    revert e3
    generalize isLetter r = a; generalize decide (1 + t.length ≤ 40 ∨ t = []) = b; generalize nameRune r = c; generalize t.all nameRune = d
    cases a <;> cases b <;> cases c <;> cases d <;> simp
end Go.Proofs.YthlcnofpgmpinaaDoor
