/-
  The runes of a text, and which of them make a name: plain words of this seat. Nothing is proved of the program here.
  The other forms of a name, as lists of runes, and their bytes: plain words and facts of this seat. Nothing is proved of the program here.
  Which words are types, and which are reserved. Nothing is proved of the program here.
  What stands between dots, and which texts are names and paths: plain words and their facts. Nothing is proved of the program here.
  The words of a text, as plain functions over its bytes: what stands at its head, how far a name or a number goes, how far a remark; and the words with their places. Nothing is proved of the program here.
  Declarations, and how they are read off the words of a text, as plain functions: a reader with the words that are left, the first error and its place. Nothing is proved of the program here.
  Declarations in memory: what their cells hold, whichever blocks they lie in. Nothing is proved of the program here.
  Words and slices in memory, and steps of the plain reader: what the walks share. Nothing is proved of the program here.
-/
import Derived.WalkKit
import Derived.ProofKit
import Derived.Below
import Derived.Laws.RangeAny
import Derived.Laws.IdiomStrings
import Derived.Lib.Strings
import Derived.Lib.RuneBytes
import Derived.Lib.RuneCount
import Derived.Lib.Split
import Derived.Lib.IndexMore
import Derived.Lib.TrimUEq
import Derived.Lib.MapLaws
import Derived.Lib.TrimAscii
import Derived.Laws.AppendOwn
import Derived.OwnWalk
import Derived.Maps.AppendAt
import Derived.BigQuiet
import Derived.Deep.QuietTactic
import Derived.Deep.AppendLies
import Derived.Lib.Hide
namespace Go.Proofs.YtknijddlacmelaaDoor
set_option linter.unusedVariables false
open Go.ChangeShapes Go.WideShapes Go.ChangeAt Go.RowKit

theorem len_data (s : ByteArray) : s.data.toList.length = s.size := by first | exact Lib.size_eq s | exact (Lib.size_eq s).symm
/-- the runes from a place on -/
def rns (s : ByteArray) : Nat → Nat → List Int
  | 0, _ => []
  | f + 1, i => if i < s.size then ((Utf8.decode s i).1 : Int) :: rns s f (i + (Utf8.decode s i).2) else []
/-- the runes of a text -/
def runes (s : ByteArray) : List Int := rns s s.size 0
theorem rns_step (s : ByteArray) (b i : Nat) (h : i < s.size) : rns s (b + 1) i = ((Utf8.decode s i).1 : Int) :: rns s b (i + (Utf8.decode s i).2) := by
  rw [rns, if_pos h]
theorem rns_end (s : ByteArray) (b i : Nat) (h : ¬ i < s.size) : rns s b i = [] := by
  cases b with
  | zero => rfl
  | succ b => rw [rns, if_neg h]
theorem width_pos (s : ByteArray) (pos : Nat) (h : pos < s.size) : 1 ≤ (Utf8.decode s pos).2 := by
  by_cases ha : (s[pos]'h).toNat < 128
  · rw [decode_ascii s pos h ha]
    exact Nat.le_refl _
  · exact (decode_high s pos h (by omega)).2

/-- whether a rune is a letter -/
def isLetter (r : Int) : Bool := decide ((97 ≤ r ∧ r ≤ 122) ∨ (65 ≤ r ∧ r ≤ 90) ∨ (913 ≤ r ∧ r ≤ 969))
def isDigit (r : Int) : Bool := decide (48 ≤ r ∧ r ≤ 57)
theorem retB {a b : Bool} (h : a = b) : Ending.returned (.bool a) = .returned (.bool b) := by rw [h]
/-- whether a rune may stand in a name -/
def nameRune (r : Int) : Bool := isLetter r || isDigit r || decide (r = 95)
/-- whether runes are a name -/
def nameOf (l : List Int) : Bool := decide (1 ≤ l.length ∧ l.length ≤ 40) && isLetter (l.headD 0) && l.all nameRune
/-- whether a rune may stand in a name, at its first place or behind it -/
def fitsAt (first : Bool) (r : Int) : Bool := isLetter r || (!first && (decide (r = 95) || isDigit r))
/-- whether runes go on as a name behind so many -/
def okFrom : Nat → List Int → Bool
  | acc, [] => decide (0 < acc)
  | acc, r :: t => decide (acc < 40) && fitsAt (acc == 0) r && okFrom (acc + 1) t
theorem nameRune_fits (r : Int) : nameRune r = fitsAt false r := by
  unfold nameRune fitsAt
  generalize isLetter r = a; generalize isDigit r = b; generalize decide (r = 95) = c
  cases a <;> cases b <;> cases c <;> rfl
theorem okFrom_pos : ∀ (l : List Int) (acc : Nat), 0 < acc → okFrom acc l = (decide (acc + l.length ≤ 40 ∨ l = []) && l.all nameRune)
  | [], acc, h => by simp [okFrom, h]
  | r :: t, acc, h => by
    have h0 : (acc == 0) = false := by simp; omega
    rw [okFrom, okFrom_pos t (acc + 1) (by omega), h0, ← nameRune_fits, List.all_cons]
    have e : (decide (acc < 40) && decide (acc + 1 + t.length ≤ 40 ∨ t = [])) = decide (acc + (r :: t).length ≤ 40 ∨ r :: t = []) := by
      rw [Bool.eq_iff_iff]
      simp only [Bool.and_eq_true, decide_eq_true_iff, List.length_cons, reduceCtorEq, or_false]
      constructor
      · rintro ⟨a, b | b⟩
        · omega
        · subst b; simp; omega
      · intro a; exact ⟨by omega, .inl (by omega)⟩
    rw [← e]
    generalize decide (acc < 40) = a; generalize decide (acc + 1 + t.length ≤ 40 ∨ t = []) = b; generalize nameRune r = c; generalize t.all nameRune = d
    cases a <;> cases b <;> cases c <;> cases d <;> rfl
theorem okFrom_name (l : List Int) : okFrom 0 l = nameOf l := by
  cases l with
  | nil => simp [okFrom, nameOf]
  | cons r t =>
    rw [okFrom, okFrom_pos t 1 (by omega)]
    unfold nameOf
    have e1 : fitsAt (0 == 0) r = isLetter r := by unfold fitsAt; simp
    rw [e1]
    have e2 : decide (1 ≤ (r :: t).length ∧ (r :: t).length ≤ 40) = decide (1 + t.length ≤ 40 ∨ t = []) := by
      rw [Bool.eq_iff_iff]
      simp only [decide_eq_true_iff, List.length_cons]
      constructor
      · intro a; exact .inl (by omega)
      · rintro (a | a)
        · omega
        · subst a; simp
    rw [e2, List.all_cons]
    have e3 : isLetter r = true → nameRune r = true := fun h => by unfold nameRune; rw [h]; rfl
    simp only [List.headD_cons]
    revert e3
    generalize isLetter r = a; generalize decide (1 + t.length ≤ 40 ∨ t = []) = b; generalize nameRune r = c; generalize t.all nameRune = d
    cases a <;> cases b <;> cases c <;> cases d <;> simp
end Go.Proofs.YtknijddlacmelaaDoor
namespace Go.Proofs.YtknijddlacmelaaDoor
set_option linter.unusedVariables false

def isSmall (r : Int) : Bool := decide (97 ≤ r ∧ r ≤ 122)
def isGreat (r : Int) : Bool := decide (65 ≤ r ∧ r ≤ 90)
/-- a rune of one or two bytes -/
def two (r : Int) : Prop := 0 ≤ r ∧ r ≤ 2047
/-! the runes of a name are of one or two bytes, and its other forms' -/
end Go.Proofs.YtknijddlacmelaaDoor
namespace Go.Proofs.YtknijddlacmelaaDoor
set_option linter.unusedVariables false

/-- the kind of a type by a word; 0: it is none -/
def scalarOf (l : List UInt8) : Int :=
  if (l == [105, 110, 116, 54, 52]) = true then 1 else if (l == [117, 105, 110, 116, 54, 52]) = true then 2 else if (l == [115, 105, 110, 116, 54, 52]) = true then 3
  else if (l == [98, 111, 111, 108]) = true then 4 else if (l == [115, 116, 114, 105, 110, 103]) = true then 5 else if (l == [98, 121, 116, 101, 115]) = true then 6
  else if (l == [102, 105, 120, 101, 100, 51, 50]) = true then 7 else if (l == [102, 105, 120, 101, 100, 54, 52]) = true then 8 else 0
/-- whether a word is reserved -/
def resOf (l : List UInt8) : Bool :=
  l == [109, 101, 115, 115, 97, 103, 101] || l == [101, 110, 117, 109] || l == [115, 101, 114, 118, 105, 99, 101] || l == [114, 112, 99] || l == [114, 101, 116, 117, 114, 110, 115] || l == [114, 101, 112, 101, 97, 116, 101, 100] || decide (0 < scalarOf l)
end Go.Proofs.YtknijddlacmelaaDoor
namespace Go.Proofs.YtknijddlacmelaaDoor
set_option linter.unusedVariables false

/-- the pieces between dots; cur: what the piece at hand has so far -/
def pcs : List UInt8 → List UInt8 → List (List UInt8)
  | cur, [] => [cur]
  | cur, b :: t => if b = 46 then cur :: pcs [] t else pcs (cur ++ [b]) t
theorem pcs_dot (cur t : List UInt8) : pcs cur (46 :: t) = cur :: pcs [] t := by rw [pcs, if_pos rfl]
theorem pcs_on (cur t : List UInt8) (b : UInt8) (h : b ≠ 46) : pcs cur (b :: t) = pcs (cur ++ [b]) t := by rw [pcs, if_neg h]
theorem pcs_len : ∀ (l cur : List UInt8), 1 ≤ (pcs cur l).length ∧ (pcs cur l).length ≤ l.length + 1
  | [], cur => by simp [pcs]
  | b :: t, cur => by
    have h1 := pcs_len t []; have h2 := pcs_len t (cur ++ [b])
    rw [pcs]; split <;> simp <;> omega
/-- no dot ahead of i, one at i -/
theorem pcs_hit : ∀ (l cur : List UInt8) (i : Nat), l[i]? = some 46 → (∀ j : Nat, j < i → l[j]? ≠ some 46) → pcs cur l = (cur ++ l.take i) :: pcs [] (l.drop (i + 1))
  | [], cur, i, h, _ => by simp at h
  | b :: t, cur, 0, h, _ => by
    simp at h; subst h; rw [pcs_dot]; simp
  | b :: t, cur, i + 1, h, hn => by
    have hb : b ≠ 46 := by intro e; exact hn 0 (by omega) (by simp [e])
    rw [pcs_on _ _ _ hb, pcs_hit t (cur ++ [b]) i (by simpa using h) (fun j hj => by have := hn (j + 1) (by omega); simpa using this)]
    simp
theorem pcs_miss : ∀ (l cur : List UInt8), (∀ j : Nat, l[j]? ≠ some 46) → pcs cur l = [cur ++ l]
  | [], cur, _ => by simp [pcs]
  | b :: t, cur, h => by
    have hb : b ≠ 46 := by intro e; exact h 0 (by simp [e])
    rw [pcs_on _ _ _ hb, pcs_miss t _ (fun j => by have := h (j + 1); simpa using this)]; simp
theorem occ_one (l : List UInt8) (j : Nat) (hj : j < l.length) : Lib.occAt l [46] j = decide (l[j]? = some 46) := by
  rw [Lib.occAt_iff_take _ _ _ (by simp; omega)]
  have e : (l.drop j).take [(46 : UInt8)].length = [l[j]] := by
    rw [List.drop_eq_getElem_cons hj]; rfl
  rw [e, List.getElem?_eq_getElem hj, Bool.eq_iff_iff, beq_iff_eq, decide_eq_true_iff]
  simp
theorem index_dot (l : List UInt8) : (Lib.index l [46] = -1 ∧ ∀ j : Nat, l[j]? ≠ some 46) ∨ ∃ i : Nat, Lib.index l [46] = i ∧ l[i]? = some 46 ∧ ∀ j : Nat, j < i → l[j]? ≠ some 46 := by
  rcases Lib.index_spec l [46] with ⟨h1, h2⟩ | ⟨i, h1, h2, h3, h4⟩
  · refine .inl ⟨h1, fun j hj => ?_⟩
    have hjl := (List.getElem?_eq_some_iff.1 hj).1
    have := h2 j (by omega)
    rw [occ_one l j hjl, decide_eq_false_iff_not] at this
    exact this hj
  · have hil : i < l.length := by
      have := Lib.index_room l [46] (by omega)
      simp at this; omega
    rw [occ_one l i hil, decide_eq_true_iff] at h3
    refine .inr ⟨i, h1, h3, fun j hj hj2 => ?_⟩
    have hjl : j < l.length := by omega
    have := h4 j hj
    rw [occ_one l j hjl, decide_eq_false_iff_not] at this
    exact this hj2
/-- cut at the first k dots at most -/
theorem splitK_pcs : ∀ (k : Nat) (l : List UInt8), ((pcs [] l).length ≤ k + 1 → Lib.splitK [46] 0 k l = pcs [] l) ∧ (k + 1 < (pcs [] l).length → (Lib.splitK [46] 0 k l).length = k + 1)
  | 0, l => by
    refine ⟨fun h => ?_, fun _ => rfl⟩
    rw [Lib.splitK]
    rcases index_dot l with ⟨_, h2⟩ | ⟨i, _, h2, h3⟩
    · rw [pcs_miss l [] h2]; rfl
    · rw [pcs_hit l [] i h2 h3] at h
      have := (pcs_len (l.drop (i + 1)) []).1
      rw [List.length_cons] at h; omega
  | k + 1, l => by
    rcases index_dot l with ⟨h1, h2⟩ | ⟨i, h1, h2, h3⟩
    · rw [pcs_miss l [] h2]
      refine ⟨fun _ => ?_, fun h => by simp at h⟩
      rw [Lib.splitK, if_pos (by rw [h1]; rfl)]; rfl
    · have hm : ¬ (Lib.index l [46] == -1) = true := fun e => by have := beq_iff_eq.1 e; omega
      have e : (Lib.index l [46]).toNat = i := by omega
      obtain ⟨ih1, ih2⟩ := splitK_pcs k (l.drop (i + 1))
      rw [pcs_hit l [] i h2 h3, Lib.splitK, if_neg hm, e]
      simp only [List.length_cons, List.nil_append, Nat.add_zero, List.length_nil]
      refine ⟨fun h => ?_, fun h => ?_⟩
      · rw [ih1 (by omega)]
      · rw [ih2 (by omega)]
/-- a name that isn't reserved -/
def plainL (l : List UInt8) : Bool := nameOf (runes ⟨l.toArray⟩) && !resOf l
/-- at most 8 such names, joined by dots -/
def pathOK (l : List UInt8) : Bool := decide ((pcs [] l).length ≤ 8) && (pcs [] l).all plainL
def numOK (n : Int) : Bool := decide (0 ≤ n ∧ n ≤ 2147483647)
end Go.Proofs.YtknijddlacmelaaDoor
namespace Go.Proofs.YtknijddlacmelaaDoor
set_option linter.unusedVariables false

def mkB (l : List UInt8) : ByteArray := ⟨l.toArray⟩
theorem mkB_data (x : ByteArray) : mkB x.data.toList = x := rfl
theorem mkB_list (l : List UInt8) : (mkB l).toList = l := by rw [ByteArray.toList_eq]; rfl
end Go.Proofs.YtknijddlacmelaaDoor
namespace Go.Proofs.YtknijddlacmelaaDoor
set_option linter.unusedVariables false

structure Fd where
  rep : Bool
  type : List UInt8
  name : List UInt8
  num : Int
  line : Int
  col : Int
structure Vl where
  name : List UInt8
  num : Int
  line : Int
  col : Int
structure Mt where
  name : List UInt8
  inp : List UInt8
  out : List UInt8
  line : Int
  col : Int
structure Dc where
  kind : Int
  name : List UInt8
  line : Int
  col : Int
  fields : List Fd
  values : List Vl
  methods : List Mt
  inner : List Dc
/-! ### each step goes on, or ends in an error -/
end Go.Proofs.YtknijddlacmelaaDoor
namespace Go.Proofs.YtknijddlacmelaaDoor
set_option linter.unusedVariables false
open Go.RowKit

def drow (d : Dc) (fs vs ms ins : Value) : List Value := [.int .i64 d.kind, .string (mkB d.name), .int .i64 d.line, .int .i64 d.col, fs, vs, ms, ins]
/-- a slice's elements lie in memory, in a block of S -/
def RowsIn {α : Type} (w : World) (S : Nat → Prop) (k : Nat) (row : α → List Value) (v : Value) (xs : List α) : Prop :=
  ∃ ad c, v = .slice ad xs.length c ∧ xs.length ≤ c ∧ (xs = [] ∨ ∃ g o, ad = some ⟨g, o, none⟩ ∧ S g ∧ ∀ (j : Nat) (x : α), xs[j]? = some x → ∀ (i : Nat) (u : Value), (row x)[i]? = some u → w.cell? ⟨g, o + (j * k + i), none⟩ = some u)
theorem RowsIn.old {α : Type} {w w' : World} {S : Nat → Prop} {k : Nat} {row : α → List Value} {v : Value} {xs : List α} (h : RowsIn w S k row v xs) (hb : ∀ b, S b → w'.heap[b]? = w.heap[b]?) : RowsIn w' S k row v xs := by
  obtain ⟨ad, c, hv, hc, h⟩ := h
  refine ⟨ad, c, hv, hc, h.imp id ?_⟩
  rintro ⟨g, o, ha, hg, h⟩
  exact ⟨g, o, ha, hg, fun j x hj i u hu => by rw [World.cell?_of_block (hb g hg)]; exact h j x hj i u hu⟩
theorem RowsIn.more {α : Type} {w : World} {S S' : Nat → Prop} {k : Nat} {row : α → List Value} {v : Value} {xs : List α} (h : RowsIn w S k row v xs) (hb : ∀ b, S b → S' b) : RowsIn w S' k row v xs := by
  obtain ⟨ad, c, hv, hc, h⟩ := h
  refine ⟨ad, c, hv, hc, h.imp id ?_⟩
  rintro ⟨g, o, ha, hg, h⟩
  exact ⟨g, o, ha, hb g hg, h⟩
theorem RowsIn.nil {α : Type} (w : World) (S : Nat → Prop) (k : Nat) (row : α → List Value) (ad : Option Addr) (c : Nat) : RowsIn w S k row (.slice ad 0 c) ([] : List α) := ⟨ad, c, rfl, Nat.zero_le _, .inl rfl⟩
end Go.Proofs.YtknijddlacmelaaDoor
namespace Go.Proofs.YtknijddlacmelaaDoor
set_option linter.unusedVariables false
open Go.ChangeShapes Go.WideShapes Go.ChangeAt Go.RowKit

theorem setCell_heap {w : World} {R j : Nat} {cs : Array Value} {t : TypeId} {fr : Nat × Nat} (h : w.heap[R]? = some (.cells cs t fr)) (x : Value) : (w.setCell ⟨R, j, none⟩ x).heap[R]? = some (.cells (cs.setIfInBounds j x) t fr) := by
  rw [setCell_eq_setRow _ _ _ _ _ _ _ h, setRow_heap w R _ _ _ _ h]
theorem alloc_heap_old (w : World) (o : Obj) (k : Nat) (h : k < w.heap.size) : (w.alloc o).heap[k]? = w.heap[k]? := Below.heap_alloc w o k h
theorem alloc_heap_new (w : World) (o : Obj) : (w.alloc o).heap[w.heap.size]? = some o := by
  show (w.heap.push o)[w.heap.size]? = _
  simp
theorem own_block {w : World} {base : Nat} {E : TypeId} {k n : Nat} {v : Value} {xs : List Value} (h : w.ownsRow base E k v n xs) : ∀ b, v.ownBlock = some b → base ≤ b ∧ b < w.heap.size := by
  intro b hb
  obtain ⟨_, ⟨rfl, _⟩ | ⟨g, cap, cur, rfl, hg, hh, _⟩⟩ := h
  · simp [Value.ownBlock] at hb
  · simp [Value.ownBlock] at hb
    have := (Array.getElem?_eq_some_iff.1 hh).1
    omega
theorem own_slice {w : World} {base : Nat} {E : TypeId} {k n : Nat} {v : Value} {xs : List Value} (h : w.ownsRow base E k v n xs) : ∃ a c, v = .slice a n c := by
  obtain ⟨_, ⟨rfl, h0⟩ | ⟨g, cap, cur, rfl, _⟩⟩ := h
  · exact ⟨none, 0, by rw [h0]⟩
  · exact ⟨_, _, rfl⟩
theorem own_keep {w w' : World} {base : Nat} {E : TypeId} {k n : Nat} {v : Value} {xs : List Value} (h : w.ownsRow base E k v n xs) (hh : ∀ b, v.ownBlock = some b → w'.heap[b]? = w.heap[b]?) : w'.ownsRow base E k v n xs := by
  obtain ⟨h1, h2 | ⟨g, cap, cur, hv, hg, hhp, r⟩⟩ := h
  · exact ⟨h1, .inl h2⟩
  · exact ⟨h1, .inr ⟨g, cap, cur, hv, hg, by rw [hh g (by rw [hv]; rfl)]; exact hhp, r⟩⟩
abbrev z6 : Array Value := #[.bool false, .string ⟨#[]⟩, .string ⟨#[]⟩, .int .i64 0, .int .i64 0, .int .i64 0]
end Go.Proofs.YtknijddlacmelaaDoor
