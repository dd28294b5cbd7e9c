/-
  The words of a text, as plain functions over its bytes: what stands at its head, how far a name or a number goes, how far a remark; and the words with their places. Nothing is proved of the program here.
-/
import Derived.Test.YtbfkaanmbdekfaaDoorEnc
import Derived.Lib.TrimUEq
import Derived.Lib.MapLaws
import Derived.Lib.TrimAscii
namespace Go.Proofs.YtbfkaanmbdekfaaDoor
set_option linter.unusedVariables false

/-- the rune at the head, and its bytes; -1: it is none -/
def nx (l : List UInt8) : Int × Nat :=
  if l = [] then (-1, 0) else if (Lib.decodeL l).1 = 65533 ∧ (Lib.decodeL l).2 ≤ 1 then (-1, (Lib.decodeL l).2) else ((Lib.decodeL l).1, (Lib.decodeL l).2)
theorem nx_width (l : List UInt8) (h : l ≠ []) : 1 ≤ (nx l).2 ∧ (nx l).2 ≤ l.length := by
  have h1 := Lib.decodeL_width l
  have h2 := Lib.decodeL_le l h
  unfold nx
  rw [if_neg h]
  split <;> exact ⟨h1, h2⟩
theorem nx_ascii (b : UInt8) (t : List UInt8) (h : b.toNat < 128) : nx (b :: t) = ((b.toNat : Int), 1) := by
  unfold nx
  rw [if_neg (by simp), Lib.decodeL_ascii b t h, if_neg (by omega)]
theorem nx_high (b : UInt8) (t : List UInt8) (h : 128 ≤ b.toNat) : (nx (b :: t)).1 = -1 ∨ 128 ≤ (nx (b :: t)).1 := by
  have hd : 128 ≤ (Lib.decodeL (b :: t)).1 := by
    unfold Lib.decodeL
    have := decode_high ⟨(b :: t).toArray⟩ 0 (by show 0 < (b :: t).toArray.size; simp) (show 128 ≤ b.toNat from h)
    exact this.1
  unfold nx
  rw [if_neg (by simp)]
  split
  · exact .inl rfl
  · right; show (128 : Int) ≤ ((Lib.decodeL (b :: t)).1 : Int); omega
theorem nx_le (l : List UInt8) : -1 ≤ (nx l).1 ∧ (nx l).1 ≤ 1114111 := by
  have h := Lib.decodeL_rune l
  unfold nx
  split
  · simp
  · split
    · simp
    · show (-1 : Int) ≤ ((Lib.decodeL l).1 : Int) ∧ ((Lib.decodeL l).1 : Int) ≤ 1114111
      omega

/-- how many bytes of letters, digits and _ stand at the head, and how many runes -/
def runL : Nat → List UInt8 → Nat × Nat
  | 0, _ => (0, 0)
  | f + 1, l => if l ≠ [] ∧ nameRune (nx l).1 = true then ((nx l).2 + (runL f (l.drop (nx l).2)).1, (runL f (l.drop (nx l).2)).2 + 1) else (0, 0)
/-- how many bytes there are up to a line feed, and how many runes -/
def skipL : Nat → List UInt8 → Nat × Nat
  | 0, _ => (0, 0)
  | f + 1, l => if l ≠ [] ∧ l.head? ≠ some 10 then ((nx l).2 + (skipL f (l.drop (nx l).2)).1, (skipL f (l.drop (nx l).2)).2 + 1) else (0, 0)
/-- the number that digits are -/
def numV (n : Int) (l : List UInt8) : Int := l.foldl (fun n b => 10 * n + ((b.toNat : Int) - 48)) n
def isDig (b : UInt8) : Bool := decide (48 ≤ b.toNat ∧ b.toNat ≤ 57)
/-- are digits a number? -/
def numL (l : List UInt8) : Bool := decide (l.length ≤ 10) && !(decide (l.head? = some 48) && decide (1 < l.length)) && decide (numV 0 l ≤ 2147483647)
def signR (r : Int) : Bool := decide (r = 123 ∨ r = 125 ∨ r = 40 ∨ r = 41 ∨ r = 61 ∨ r = 59 ∨ r = 46)
/-- is it a word? -/
def rightL (kind : Int) (t : List UInt8) (r : Int) : Bool :=
  if kind = 1 then nameOf (runes ⟨t.toArray⟩) else if kind = 2 then t.all isDig && numL t else signR r
def mkB (l : List UInt8) : ByteArray := ⟨l.toArray⟩
theorem mkB_data (x : ByteArray) : mkB x.data.toList = x := rfl
theorem mkB_list (l : List UInt8) : (mkB l).toList = l := by rw [ByteArray.toList_eq]; rfl
structure Wd where
  kind : Int
  text : List UInt8
  line : Nat
  col : Nat
/-- the kind, the bytes and the runes of what begins at the head -/
def headW (l : List UInt8) : Int × Nat × Nat :=
  if isLetter (nx l).1 = true then (1, runL l.length l) else if isDigit (nx l).1 = true then (2, runL l.length l) else (3, (nx l).2, 1)
/-- the words from here on, behind those that are told; the place and the error, if there is one -/
def lexL : Nat → List UInt8 → Nat → Nat → List Wd → List Wd × (Nat × Nat) × Int
  | 0, _, _, _, acc => (acc, (0, 0), 0)
  | f + 1, l, line, col, acc =>
    if l = [] then (acc, (0, 0), 0)
    else if (nx l).1 = 10 then lexL f (l.drop 1) (line + 1) 1 acc
    else if (nx l).1 = 32 ∨ (nx l).1 = 9 then lexL f (l.drop 1) line (col + 1) acc
    else if (nx l).1 = 47 ∧ l[1]? = some 47 then lexL f (l.drop (skipL l.length l).1) line (col + (skipL l.length l).2) acc
    else if rightL (headW l).1 (l.take (headW l).2.1) (nx l).1 = false then ([], (line, col), 6)
    else if acc.length = 4000 then ([], (line, col), 4)
    else lexL f (l.drop (headW l).2.1) line (col + (headW l).2.2) (acc ++ [⟨(headW l).1, l.take (headW l).2.1, line, col⟩])
theorem lexL_end (f line col : Nat) (acc : List Wd) : lexL f [] line col acc = (acc, (0, 0), 0) := by
  cases f with
  | zero => rfl
  | succ f => rw [lexL, if_pos rfl]
theorem lexL_feed (f : Nat) (l : List UInt8) (line col : Nat) (acc : List Wd) (h : l ≠ []) (hr : (nx l).1 = 10) : lexL (f + 1) l line col acc = lexL f (l.drop 1) (line + 1) 1 acc := by
  rw [lexL, if_neg h, if_pos hr]
theorem lexL_blank (f : Nat) (l : List UInt8) (line col : Nat) (acc : List Wd) (h : l ≠ []) (hr : (nx l).1 = 32 ∨ (nx l).1 = 9) : lexL (f + 1) l line col acc = lexL f (l.drop 1) line (col + 1) acc := by
  rw [lexL, if_neg h, if_neg (by omega), if_pos hr]
theorem lexL_remark (f : Nat) (l : List UInt8) (line col : Nat) (acc : List Wd) (h : l ≠ []) (hr : (nx l).1 = 47) (h1 : l[1]? = some 47) : lexL (f + 1) l line col acc = lexL f (l.drop (skipL l.length l).1) line (col + (skipL l.length l).2) acc := by
  rw [lexL, if_neg h, if_neg (by omega), if_neg (by omega), if_pos ⟨hr, h1⟩]
/-- where a word should begin -/
def begins (l : List UInt8) : Prop := l ≠ [] ∧ (nx l).1 ≠ 10 ∧ (nx l).1 ≠ 32 ∧ (nx l).1 ≠ 9 ∧ ¬ ((nx l).1 = 47 ∧ l[1]? = some 47)
theorem lexL_word (f : Nat) (l : List UInt8) (line col : Nat) (acc : List Wd) (h : begins l) : lexL (f + 1) l line col acc =
    if rightL (headW l).1 (l.take (headW l).2.1) (nx l).1 = false then ([], (line, col), 6)
    else if acc.length = 4000 then ([], (line, col), 4)
    else lexL f (l.drop (headW l).2.1) line (col + (headW l).2.2) (acc ++ [⟨(headW l).1, l.take (headW l).2.1, line, col⟩]) := by
  obtain ⟨h0, h1, h2, h3, h4⟩ := h
  rw [lexL, if_neg h0, if_neg h1, if_neg (by omega), if_neg h4]
theorem runL_le : ∀ (f : Nat) (l : List UInt8), (runL f l).1 ≤ l.length ∧ (runL f l).2 ≤ (runL f l).1
  | 0, l => by simp [runL]
  | f + 1, l => by
    unfold runL
    split
    · rename_i h
      have hw := nx_width l h.1
      have ih := runL_le f (l.drop (nx l).2)
      rw [List.length_drop] at ih
      simp only
      omega
    · simp
theorem skipL_le : ∀ (f : Nat) (l : List UInt8), (skipL f l).1 ≤ l.length ∧ (skipL f l).2 ≤ (skipL f l).1
  | 0, l => by simp [skipL]
  | f + 1, l => by
    unfold skipL
    split
    · rename_i h
      have hw := nx_width l h.1
      have ih := skipL_le f (l.drop (nx l).2)
      rw [List.length_drop] at ih
      simp only
      omega
    · simp
theorem skipL_step (f : Nat) (l : List UInt8) (h : l ≠ []) (hr : l.head? ≠ some 10) : skipL (f + 1) l = ((nx l).2 + (skipL f (l.drop (nx l).2)).1, (skipL f (l.drop (nx l).2)).2 + 1) := by rw [skipL, if_pos ⟨h, hr⟩]
theorem skipL_stop (f : Nat) (l : List UInt8) (h : l = [] ∨ l.head? = some 10) : skipL f l = (0, 0) := by
  cases f with
  | zero => rfl
  | succ f =>
    rw [skipL, if_neg]
    rintro ⟨h1, h2⟩
    rcases h with h | h
    · exact h1 h
    · exact h2 h
theorem runL_pos (f : Nat) (l : List UInt8) (h : l ≠ []) (hr : nameRune (nx l).1 = true) : 1 ≤ (runL (f + 1) l).1 ∧ 1 ≤ (runL (f + 1) l).2 := by
  have hw := nx_width l h
  rw [runL, if_pos ⟨h, hr⟩]
  simp only
  omega
theorem headW_bd (l : List UInt8) (h : l ≠ []) : 1 ≤ (headW l).2.1 ∧ (headW l).2.1 ≤ l.length ∧ (headW l).2.2 ≤ (headW l).2.1 ∧ ((headW l).1 = 1 ∨ (headW l).1 = 2 ∨ (headW l).1 = 3) := by
  have hw := nx_width l h
  have hl := runL_le l.length l
  obtain ⟨m, hm⟩ : ∃ m, l.length = m + 1 := ⟨l.length - 1, by omega⟩
  unfold headW
  split
  · rename_i hL
    have := runL_pos m l h (by unfold nameRune; rw [hL]; rfl)
    rw [hm] at hl ⊢
    exact ⟨this.1, hl.1, hl.2, .inl rfl⟩
  · split
    · rename_i hL hD
      have := runL_pos m l h (by unfold nameRune; rw [hD]; simp)
      rw [hm] at hl ⊢
      exact ⟨this.1, hl.1, hl.2, .inr (.inl rfl)⟩
    · exact ⟨hw.1, hw.2, hw.1, .inr (.inr rfl)⟩
/-- the words of a text -/
def wordsL (l : List UInt8) : List Wd × (Nat × Nat) × Int := if 20000 < l.length then ([], (1, 1), 4) else lexL l.length l 1 1 []
end Go.Proofs.YtbfkaanmbdekfaaDoor
