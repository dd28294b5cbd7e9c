/-
  A cell of a block.
  The runes of a text, and which of them make a name: plain words of this seat. Nothing is proved of the program here.
  The other forms of a name, as lists of runes, and their bytes: plain words and facts of this seat. Nothing is proved of the program here.
  Which words are types, and which are reserved. Nothing is proved of the program here.
  What stands between dots, and which texts are names and paths: plain words and their facts. Nothing is proved of the program here.
  The words of a text, as plain functions over its bytes: what stands at its head, how far a name or a number goes, how far a remark; and the words with their places. Nothing is proved of the program here.
  Facts on the words of a text: no more rounds are needed than there are bytes; a line further down all is the same; places rise. Nothing is proved of the program here.
  A remark says nothing: how a text is read up to a line feed does not hang on what stands behind it. Nothing is proved of the program here.
  A remark says nothing, the rest: how a text is read up to a line feed, whatever stands behind it. Nothing is proved of the program here.
-/
import Derived.WalkKit
import Derived.ProofKit
import Derived.Below
import Derived.Laws.RangeAny
import Derived.Laws.IdiomStrings
import Derived.Lib.Strings
import Derived.Lib.RuneBytes
import Derived.Lib.RuneCount
import Derived.Lib.Split
import Derived.Lib.IndexMore
import Derived.Lib.TrimUEq
import Derived.Lib.MapLaws
import Derived.Lib.TrimAscii
namespace Go.Proofs.YtpojeinddnjpfaaGreatDoor
theorem cell_at {w : World} {B : Nat} {cs : Array Value} {T : TypeId} {fr : Nat × Nat} {v : Value} (h : w.heap[B]? = some (.cells cs T fr)) (i : Nat) (e : cs.toList[i]? = some v) : w.cell? ⟨B, i, none⟩ = some v := by
  simp only [World.cell?, h]
  simpa using e
theorem frozen_at {w : World} {B : Nat} {cs : Array Value} {T : TypeId} (h : w.heap[B]? = some (.cells cs T (0, 0))) (i : Nat) : w.frozen? ⟨B, i, none⟩ = false := by
  simp [World.frozen?, h]
end Go.Proofs.YtpojeinddnjpfaaGreatDoor
namespace Go.Proofs.YtpojeinddnjpfaaGreatDoor
set_option linter.unusedVariables false
open Go.ChangeShapes Go.WideShapes Go.ChangeAt Go.RowKit

theorem len_data (s : ByteArray) : s.data.toList.length = s.size := by first | exact Lib.size_eq s | exact (Lib.size_eq s).symm
theorem at_data (s : ByteArray) (k : Nat) (h : k < s.size) : s.data.toList[k]? = some (s[k]'h) := by
 rw [List.getElem?_eq_getElem (by rw [len_data]; exact h)]; rfl
def rns (s : ByteArray) : Nat → Nat → List Int
 | 0, _ => []
 | f + 1, i => if i < s.size then ((Utf8.decode s i).1 : Int) :: rns s f (i + (Utf8.decode s i).2) else []
def runes (s : ByteArray) : List Int := rns s s.size 0
theorem rns_step (s : ByteArray) (b i : Nat) (h : i < s.size) : rns s (b + 1) i = ((Utf8.decode s i).1 : Int) :: rns s b (i + (Utf8.decode s i).2) := by
 rw [rns, if_pos h]
theorem rns_end (s : ByteArray) (b i : Nat) (h : ¬ i < s.size) : rns s b i = [] := by
 cases b with
 | zero => rfl
 | succ b => rw [rns, if_neg h]
theorem width_pos (s : ByteArray) (pos : Nat) (h : pos < s.size) : 1 ≤ (Utf8.decode s pos).2 := by
 by_cases ha : (s[pos]'h).toNat < 128
 ·rw [decode_ascii s pos h ha]
  exact Nat.le_refl _
 ·exact (decode_high s pos h (by omega)).2

def isLetter (r : Int) : Bool := decide ((97 ≤ r ∧ r ≤ 122) ∨ (65 ≤ r ∧ r ≤ 90) ∨ (913 ≤ r ∧ r ≤ 969))
def isDigit (r : Int) : Bool := decide (48 ≤ r ∧ r ≤ 57)
theorem retB {a b : Bool} (h : a = b) : Ending.returned (.bool a) = .returned (.bool b) := by rw [h]
def nameRune (r : Int) : Bool := isLetter r || isDigit r || decide (r = 95)
def nameOf (l : List Int) : Bool := decide (1 ≤ l.length ∧ l.length ≤ 40) && isLetter (l.headD 0) && l.all nameRune
def fitsAt (first : Bool) (r : Int) : Bool := isLetter r || (!first && (decide (r = 95) || isDigit r))
def okFrom : Nat → List Int → Bool
 | acc, [] => decide (0 < acc)
 | acc, r :: t => decide (acc < 40) && fitsAt (acc == 0) r && okFrom (acc + 1) t
theorem nameRune_fits (r : Int) : nameRune r = fitsAt false r := by
 unfold nameRune fitsAt
 generalize isLetter r = a; generalize isDigit r = b; generalize decide (r = 95) = c
 cases a <;> cases b <;> cases c <;> rfl
theorem okFrom_pos : ∀ (l : List Int) (acc : Nat), 0 < acc → okFrom acc l = (decide (acc + l.length ≤ 40 ∨ l = []) && l.all nameRune)
 | [], acc, h => by simp [okFrom, h]
 | r :: t, acc, h => by
  have h0 : (acc == 0) = false := by simp; omega
  rw [okFrom, okFrom_pos t (acc + 1) (by omega), h0, ← nameRune_fits, List.all_cons]
  have e : (decide (acc < 40) && decide (acc + 1 + t.length ≤ 40 ∨ t = [])) = decide (acc + (r :: t).length ≤ 40 ∨ r :: t = []) := by
   rw [Bool.eq_iff_iff]
   simp only [Bool.and_eq_true, decide_eq_true_iff, List.length_cons, reduceCtorEq, or_false]
   constructor
   ·rintro ⟨a, b | b⟩
    ·omega
    ·subst b; simp; omega
   ·intro a; exact ⟨by omega, .inl (by omega)⟩
  rw [← e]
  generalize decide (acc < 40) = a; generalize decide (acc + 1 + t.length ≤ 40 ∨ t = []) = b; generalize nameRune r = c; generalize t.all nameRune = d
  cases a <;> cases b <;> cases c <;> cases d <;> rfl
theorem okFrom_name (l : List Int) : okFrom 0 l = nameOf l := by
 cases l with
 | nil => simp [okFrom, nameOf]
 | cons r t =>
  rw [okFrom, okFrom_pos t 1 (by omega)]
  unfold nameOf
  have e1 : fitsAt (0 == 0) r = isLetter r := by unfold fitsAt; simp
  rw [e1]
  have e2 : decide (1 ≤ (r :: t).length ∧ (r :: t).length ≤ 40) = decide (1 + t.length ≤ 40 ∨ t = []) := by
   rw [Bool.eq_iff_iff]
   simp only [decide_eq_true_iff, List.length_cons]
   constructor
   ·intro a; exact .inl (by omega)
   ·rintro (a | a)
    ·omega
    ·subst a; simp
  rw [e2, List.all_cons]
  have e3 : isLetter r = true → nameRune r = true := fun h => by unfold nameRune; rw [h]; rfl
  simp only [List.headD_cons]
  revert e3
  generalize isLetter r = a; generalize decide (1 + t.length ≤ 40 ∨ t = []) = b; generalize nameRune r = c; generalize t.all nameRune = d
  cases a <;> cases b <;> cases c <;> cases d <;> simp
end Go.Proofs.YtpojeinddnjpfaaGreatDoor
namespace Go.Proofs.YtpojeinddnjpfaaGreatDoor
set_option linter.unusedVariables false

def isSmall (r : Int) : Bool := decide (97 ≤ r ∧ r ≤ 122)
def isGreat (r : Int) : Bool := decide (65 ≤ r ∧ r ≤ 90)
def encL (l : List Int) : List UInt8 := l.flatMap Lib.encodeRune
theorem encL_cons (r : Int) (t : List Int) : encL (r :: t) = Lib.encodeRune r ++ encL t := by simp [encL]
theorem enc_len (r : Int) : 1 ≤ (Lib.encodeRune r).length ∧ (Lib.encodeRune r).length ≤ 4 := by
 have := Lib.runeCells_le r; rw [Lib.runeCells_length] at this; exact this
theorem enc_small (r : Int) (h : 0 ≤ r) (h1 : r ≤ 127) : Lib.encodeRune r = [UInt8.ofNat r.toNat] := by
 unfold Lib.encodeRune; rw [Lib.encodeRuneZ_one h h1]; rfl
theorem enc_two (r : Int) (h : 128 ≤ r) (h1 : r ≤ 2047) : Lib.encodeRune r = [UInt8.ofNat (192 + r / 64).toNat, UInt8.ofNat (128 + r % 64).toNat] := by
 unfold Lib.encodeRune; rw [Lib.encodeRuneZ_two h h1]; rfl

def two (r : Int) : Prop := 0 ≤ r ∧ r ≤ 2047
/-! the runes of a name are of one or two bytes, and its other forms' -/
theorem two_of_name {r : Int} (h : nameRune r = true) : two r := by
 unfold nameRune isLetter isDigit at h
 simp only [Bool.or_eq_true, decide_eq_true_iff] at h
 unfold two; omega
theorem name_all {l : List Int} (h : nameOf l = true) : ∀ r ∈ l, nameRune r = true := by
 unfold nameOf at h
 simp only [Bool.and_eq_true, List.all_eq_true] at h
 exact h.2
end Go.Proofs.YtpojeinddnjpfaaGreatDoor
namespace Go.Proofs.YtpojeinddnjpfaaGreatDoor
set_option linter.unusedVariables false

def scalarOf (l : List UInt8) : Int :=
 if (l == [105, 110, 116, 54, 52]) = true then 1 else if (l == [117, 105, 110, 116, 54, 52]) = true then 2 else if (l == [115, 105, 110, 116, 54, 52]) = true then 3
 else if (l == [98, 111, 111, 108]) = true then 4 else if (l == [115, 116, 114, 105, 110, 103]) = true then 5 else if (l == [98, 121, 116, 101, 115]) = true then 6
 else if (l == [102, 105, 120, 101, 100, 51, 50]) = true then 7 else if (l == [102, 105, 120, 101, 100, 54, 52]) = true then 8 else 0
def resOf (l : List UInt8) : Bool :=
 l == [109, 101, 115, 115, 97, 103, 101] || l == [101, 110, 117, 109] || l == [115, 101, 114, 118, 105, 99, 101] || l == [114, 112, 99] || l == [114, 101, 116, 117, 114, 110, 115] || l == [114, 101, 112, 101, 97, 116, 101, 100] || decide (0 < scalarOf l)
end Go.Proofs.YtpojeinddnjpfaaGreatDoor
namespace Go.Proofs.YtpojeinddnjpfaaGreatDoor
set_option linter.unusedVariables false

def pcs : List UInt8 → List UInt8 → List (List UInt8)
 | cur, [] => [cur]
 | cur, b :: t => if b = 46 then cur :: pcs [] t else pcs (cur ++ [b]) t
theorem pcs_dot (cur t : List UInt8) : pcs cur (46 :: t) = cur :: pcs [] t := by rw [pcs, if_pos rfl]
theorem pcs_on (cur t : List UInt8) (b : UInt8) (h : b ≠ 46) : pcs cur (b :: t) = pcs (cur ++ [b]) t := by rw [pcs, if_neg h]
theorem pcs_len : ∀ (l cur : List UInt8), 1 ≤ (pcs cur l).length ∧ (pcs cur l).length ≤ l.length + 1
 | [], cur => by simp [pcs]
 | b :: t, cur => by
  have h1 := pcs_len t []; have h2 := pcs_len t (cur ++ [b])
  rw [pcs]; split <;> simp <;> omega
theorem pcs_hit : ∀ (l cur : List UInt8) (i : Nat), l[i]? = some 46 → (∀ j : Nat, j < i → l[j]? ≠ some 46) → pcs cur l = (cur ++ l.take i) :: pcs [] (l.drop (i + 1))
 | [], cur, i, h, _ => by simp at h
 | b :: t, cur, 0, h, _ => by
  simp at h; subst h; rw [pcs_dot]; simp
 | b :: t, cur, i + 1, h, hn => by
  have hb : b ≠ 46 := by intro e; exact hn 0 (by omega) (by simp [e])
  rw [pcs_on _ _ _ hb, pcs_hit t (cur ++ [b]) i (by simpa using h) (fun j hj => by have := hn (j + 1) (by omega); simpa using this)]
  simp
theorem pcs_miss : ∀ (l cur : List UInt8), (∀ j : Nat, l[j]? ≠ some 46) → pcs cur l = [cur ++ l]
 | [], cur, _ => by simp [pcs]
 | b :: t, cur, h => by
  have hb : b ≠ 46 := by intro e; exact h 0 (by simp [e])
  rw [pcs_on _ _ _ hb, pcs_miss t _ (fun j => by have := h (j + 1); simpa using this)]; simp
theorem occ_one (l : List UInt8) (j : Nat) (hj : j < l.length) : Lib.occAt l [46] j = decide (l[j]? = some 46) := by
 rw [Lib.occAt_iff_take _ _ _ (by simp; omega)]
 have e : (l.drop j).take [(46 : UInt8)].length = [l[j]] := by
  rw [List.drop_eq_getElem_cons hj]; rfl
 rw [e, List.getElem?_eq_getElem hj, Bool.eq_iff_iff, beq_iff_eq, decide_eq_true_iff]
 simp
theorem index_dot (l : List UInt8) : (Lib.index l [46] = -1 ∧ ∀ j : Nat, l[j]? ≠ some 46) ∨ ∃ i : Nat, Lib.index l [46] = i ∧ l[i]? = some 46 ∧ ∀ j : Nat, j < i → l[j]? ≠ some 46 := by
 rcases Lib.index_spec l [46] with ⟨h1, h2⟩ | ⟨i, h1, h2, h3, h4⟩
 ·refine .inl ⟨h1, fun j hj => ?_⟩
  have hjl := (List.getElem?_eq_some_iff.1 hj).1
  have := h2 j (by omega)
  rw [occ_one l j hjl, decide_eq_false_iff_not] at this
  exact this hj
 ·have hil : i < l.length := by
   have := Lib.index_room l [46] (by omega)
   simp at this; omega
  rw [occ_one l i hil, decide_eq_true_iff] at h3
  refine .inr ⟨i, h1, h3, fun j hj hj2 => ?_⟩
  have hjl : j < l.length := by omega
  have := h4 j hj
  rw [occ_one l j hjl, decide_eq_false_iff_not] at this
  exact this hj2
theorem splitK_pcs : ∀ (k : Nat) (l : List UInt8), ((pcs [] l).length ≤ k + 1 → Lib.splitK [46] 0 k l = pcs [] l) ∧ (k + 1 < (pcs [] l).length → (Lib.splitK [46] 0 k l).length = k + 1)
 | 0, l => by
  refine ⟨fun h => ?_, fun _ => rfl⟩
  rw [Lib.splitK]
  rcases index_dot l with ⟨_, h2⟩ | ⟨i, _, h2, h3⟩
  ·rw [pcs_miss l [] h2]; rfl
  ·rw [pcs_hit l [] i h2 h3] at h
   have := (pcs_len (l.drop (i + 1)) []).1
   rw [List.length_cons] at h; omega
 | k + 1, l => by
  rcases index_dot l with ⟨h1, h2⟩ | ⟨i, h1, h2, h3⟩
  ·rw [pcs_miss l [] h2]
   refine ⟨fun _ => ?_, fun h => by simp at h⟩
   rw [Lib.splitK, if_pos (by rw [h1]; rfl)]; rfl
  ·have hm : ¬ (Lib.index l [46] == -1) = true := fun e => by have := beq_iff_eq.1 e; omega
   have e : (Lib.index l [46]).toNat = i := by omega
   obtain ⟨ih1, ih2⟩ := splitK_pcs k (l.drop (i + 1))
   rw [pcs_hit l [] i h2 h3, Lib.splitK, if_neg hm, e]
   simp only [List.length_cons, List.nil_append, Nat.add_zero, List.length_nil]
   refine ⟨fun h => ?_, fun h => ?_⟩
   ·rw [ih1 (by omega)]
   ·rw [ih2 (by omega)]
def plainL (l : List UInt8) : Bool := nameOf (runes ⟨l.toArray⟩) && !resOf l
def pathOK (l : List UInt8) : Bool := decide ((pcs [] l).length ≤ 8) && (pcs [] l).all plainL
def typeOK (l : List UInt8) : Bool := decide (0 < scalarOf l) || pathOK l
def numOK (n : Int) : Bool := decide (0 ≤ n ∧ n ≤ 2147483647)
theorem plainL_name {l : List UInt8} (h : plainL l = true) : nameOf (runes ⟨l.toArray⟩) = true ∧ resOf l = false := by
 unfold plainL at h
 simpa using h
end Go.Proofs.YtpojeinddnjpfaaGreatDoor
namespace Go.Proofs.YtpojeinddnjpfaaGreatDoor
set_option linter.unusedVariables false

def nx (l : List UInt8) : Int × Nat :=
 if l = [] then (-1, 0) else if (Lib.decodeL l).1 = 65533 ∧ (Lib.decodeL l).2 ≤ 1 then (-1, (Lib.decodeL l).2) else ((Lib.decodeL l).1, (Lib.decodeL l).2)
theorem nx_width (l : List UInt8) (h : l ≠ []) : 1 ≤ (nx l).2 ∧ (nx l).2 ≤ l.length := by
 have h1 := Lib.decodeL_width l
 have h2 := Lib.decodeL_le l h
 unfold nx
 rw [if_neg h]
 split <;> exact ⟨h1, h2⟩
theorem nx_ascii (b : UInt8) (t : List UInt8) (h : b.toNat < 128) : nx (b :: t) = ((b.toNat : Int), 1) := by
 unfold nx
 rw [if_neg (by simp), Lib.decodeL_ascii b t h, if_neg (by omega)]
theorem nx_high (b : UInt8) (t : List UInt8) (h : 128 ≤ b.toNat) : (nx (b :: t)).1 = -1 ∨ 128 ≤ (nx (b :: t)).1 := by
 have hd : 128 ≤ (Lib.decodeL (b :: t)).1 := by
  unfold Lib.decodeL
  have := decode_high ⟨(b :: t).toArray⟩ 0 (by show 0 < (b :: t).toArray.size; simp) (show 128 ≤ b.toNat from h)
  exact this.1
 unfold nx
 rw [if_neg (by simp)]
 split
 ·exact .inl rfl
 ·right; show (128 : Int) ≤ ((Lib.decodeL (b :: t)).1 : Int); omega
def runL : Nat → List UInt8 → Nat × Nat
 | 0, _ => (0, 0)
 | f + 1, l => if l ≠ [] ∧ nameRune (nx l).1 = true then ((nx l).2 + (runL f (l.drop (nx l).2)).1, (runL f (l.drop (nx l).2)).2 + 1) else (0, 0)
def skipL : Nat → List UInt8 → Nat × Nat
 | 0, _ => (0, 0)
 | f + 1, l => if l ≠ [] ∧ l.head? ≠ some 10 then ((nx l).2 + (skipL f (l.drop (nx l).2)).1, (skipL f (l.drop (nx l).2)).2 + 1) else (0, 0)
def numV (n : Int) (l : List UInt8) : Int := l.foldl (fun n b => 10 * n + ((b.toNat : Int) - 48)) n
def isDig (b : UInt8) : Bool := decide (48 ≤ b.toNat ∧ b.toNat ≤ 57)
def numL (l : List UInt8) : Bool := decide (l.length ≤ 10) && !(decide (l.head? = some 48) && decide (1 < l.length)) && decide (numV 0 l ≤ 2147483647)
def signR (r : Int) : Bool := decide (r = 123 ∨ r = 125 ∨ r = 40 ∨ r = 41 ∨ r = 61 ∨ r = 59 ∨ r = 46)
def rightL (kind : Int) (t : List UInt8) (r : Int) : Bool :=
 if kind = 1 then nameOf (runes ⟨t.toArray⟩) else if kind = 2 then t.all isDig && numL t else signR r
def mkB (l : List UInt8) : ByteArray := ⟨l.toArray⟩
theorem mkB_data (x : ByteArray) : mkB x.data.toList = x := rfl
theorem mkB_list (l : List UInt8) : (mkB l).toList = l := by rw [ByteArray.toList_eq]; rfl
structure Wd where
 kind : Int
 text : List UInt8
 line : Nat
 col : Nat
def headW (l : List UInt8) : Int × Nat × Nat :=
 if isLetter (nx l).1 = true then (1, runL l.length l) else if isDigit (nx l).1 = true then (2, runL l.length l) else (3, (nx l).2, 1)
def lexL : Nat → List UInt8 → Nat → Nat → List Wd → List Wd × (Nat × Nat) × Int
 | 0, _, _, _, acc => (acc, (0, 0), 0)
 | f + 1, l, line, col, acc =>
  if l = [] then (acc, (0, 0), 0)
  else if (nx l).1 = 10 then lexL f (l.drop 1) (line + 1) 1 acc
  else if (nx l).1 = 32 ∨ (nx l).1 = 9 then lexL f (l.drop 1) line (col + 1) acc
  else if (nx l).1 = 47 ∧ l[1]? = some 47 then lexL f (l.drop (skipL l.length l).1) line (col + (skipL l.length l).2) acc
  else if rightL (headW l).1 (l.take (headW l).2.1) (nx l).1 = false then ([], (line, col), 6)
  else if acc.length = 4000 then ([], (line, col), 4)
  else lexL f (l.drop (headW l).2.1) line (col + (headW l).2.2) (acc ++ [⟨(headW l).1, l.take (headW l).2.1, line, col⟩])
theorem lexL_end (f line col : Nat) (acc : List Wd) : lexL f [] line col acc = (acc, (0, 0), 0) := by
 cases f with
 | zero => rfl
 | succ f => rw [lexL, if_pos rfl]
theorem lexL_feed (f : Nat) (l : List UInt8) (line col : Nat) (acc : List Wd) (h : l ≠ []) (hr : (nx l).1 = 10) : lexL (f + 1) l line col acc = lexL f (l.drop 1) (line + 1) 1 acc := by
 rw [lexL, if_neg h, if_pos hr]
theorem lexL_blank (f : Nat) (l : List UInt8) (line col : Nat) (acc : List Wd) (h : l ≠ []) (hr : (nx l).1 = 32 ∨ (nx l).1 = 9) : lexL (f + 1) l line col acc = lexL f (l.drop 1) line (col + 1) acc := by
 rw [lexL, if_neg h, if_neg (by omega), if_pos hr]
theorem lexL_remark (f : Nat) (l : List UInt8) (line col : Nat) (acc : List Wd) (h : l ≠ []) (hr : (nx l).1 = 47) (h1 : l[1]? = some 47) : lexL (f + 1) l line col acc = lexL f (l.drop (skipL l.length l).1) line (col + (skipL l.length l).2) acc := by
 rw [lexL, if_neg h, if_neg (by omega), if_neg (by omega), if_pos ⟨hr, h1⟩]
def begins (l : List UInt8) : Prop := l ≠ [] ∧ (nx l).1 ≠ 10 ∧ (nx l).1 ≠ 32 ∧ (nx l).1 ≠ 9 ∧ ¬ ((nx l).1 = 47 ∧ l[1]? = some 47)
theorem lexL_word (f : Nat) (l : List UInt8) (line col : Nat) (acc : List Wd) (h : begins l) : lexL (f + 1) l line col acc =
  if rightL (headW l).1 (l.take (headW l).2.1) (nx l).1 = false then ([], (line, col), 6)
  else if acc.length = 4000 then ([], (line, col), 4)
  else lexL f (l.drop (headW l).2.1) line (col + (headW l).2.2) (acc ++ [⟨(headW l).1, l.take (headW l).2.1, line, col⟩]) := by
 obtain ⟨h0, h1, h2, h3, h4⟩ := h
 rw [lexL, if_neg h0, if_neg h1, if_neg (by omega), if_neg h4]
theorem runL_le : ∀ (f : Nat) (l : List UInt8), (runL f l).1 ≤ l.length ∧ (runL f l).2 ≤ (runL f l).1
 | 0, l => by simp [runL]
 | f + 1, l => by
  unfold runL
  split
  ·rename_i h
   have hw := nx_width l h.1
   have ih := runL_le f (l.drop (nx l).2)
   rw [List.length_drop] at ih
   simp only
   omega
  ·simp
theorem skipL_le : ∀ (f : Nat) (l : List UInt8), (skipL f l).1 ≤ l.length ∧ (skipL f l).2 ≤ (skipL f l).1
 | 0, l => by simp [skipL]
 | f + 1, l => by
  unfold skipL
  split
  ·rename_i h
   have hw := nx_width l h.1
   have ih := skipL_le f (l.drop (nx l).2)
   rw [List.length_drop] at ih
   simp only
   omega
  ·simp
theorem skipL_step (f : Nat) (l : List UInt8) (h : l ≠ []) (hr : l.head? ≠ some 10) : skipL (f + 1) l = ((nx l).2 + (skipL f (l.drop (nx l).2)).1, (skipL f (l.drop (nx l).2)).2 + 1) := by rw [skipL, if_pos ⟨h, hr⟩]
theorem skipL_stop (f : Nat) (l : List UInt8) (h : l = [] ∨ l.head? = some 10) : skipL f l = (0, 0) := by
 cases f with
 | zero => rfl
 | succ f =>
  rw [skipL, if_neg]
  rintro ⟨h1, h2⟩
  rcases h with h | h
  ·exact h1 h
  ·exact h2 h
theorem runL_pos (f : Nat) (l : List UInt8) (h : l ≠ []) (hr : nameRune (nx l).1 = true) : 1 ≤ (runL (f + 1) l).1 ∧ 1 ≤ (runL (f + 1) l).2 := by
 have hw := nx_width l h
 rw [runL, if_pos ⟨h, hr⟩]
 simp only
 omega
theorem headW_bd (l : List UInt8) (h : l ≠ []) : 1 ≤ (headW l).2.1 ∧ (headW l).2.1 ≤ l.length ∧ (headW l).2.2 ≤ (headW l).2.1 ∧ ((headW l).1 = 1 ∨ (headW l).1 = 2 ∨ (headW l).1 = 3) := by
 have hw := nx_width l h
 have hl := runL_le l.length l
 obtain ⟨m, hm⟩ : ∃ m, l.length = m + 1 := ⟨l.length - 1, by omega⟩
 unfold headW
 split
 ·rename_i hL
  have := runL_pos m l h (by unfold nameRune; rw [hL]; rfl)
  rw [hm] at hl ⊢
  exact ⟨this.1, hl.1, hl.2, .inl rfl⟩
 ·split
  ·rename_i hL hD
   have := runL_pos m l h (by unfold nameRune; rw [hD]; simp)
   rw [hm] at hl ⊢
   exact ⟨this.1, hl.1, hl.2, .inr (.inl rfl)⟩
  ·exact ⟨hw.1, hw.2, hw.1, .inr (.inr rfl)⟩
def wordsL (l : List UInt8) : List Wd × (Nat × Nat) × Int := if 20000 < l.length then ([], (1, 1), 4) else lexL l.length l 1 1 []
end Go.Proofs.YtpojeinddnjpfaaGreatDoor
namespace Go.Proofs.YtpojeinddnjpfaaGreatDoor
set_option linter.unusedVariables false

theorem skipL_one (l : List UInt8) (h : l ≠ []) (hr : l.head? ≠ some 10) : 1 ≤ (skipL l.length l).1 := by
 obtain ⟨m, hm⟩ : ∃ m, l.length = m + 1 := ⟨l.length - 1, by have := List.length_pos_iff.2 h; omega⟩
 have := (nx_width l h).1
 rw [hm, skipL_step m l h hr]; simp only; omega
theorem head_nx (l : List UInt8) (h : l ≠ []) (hr : (nx l).1 ≠ 10) : l.head? ≠ some 10 := by
 cases l with
 | nil => exact absurd rfl h
 | cons b t =>
  intro e
  have : b = 10 := by simpa using e
  subst this
  rw [nx_ascii _ _ (by decide)] at hr
  exact hr rfl
theorem lexL_count : ∀ (f : Nat) (l : List UInt8) (line col : Nat) (acc : List Wd), acc.length ≤ 4000 → (lexL f l line col acc).1.length ≤ 4000
 | 0, l, line, col, acc, h => h
 | f + 1, l, line, col, acc, h => by
  by_cases h0 : l = []
  ·subst h0; rw [lexL_end]; exact h
  ·by_cases h10 : (nx l).1 = 10
   ·rw [lexL_feed f l _ _ _ h0 h10]; exact lexL_count f _ _ _ _ h
   ·by_cases hb : (nx l).1 = 32 ∨ (nx l).1 = 9
    ·rw [lexL_blank f l _ _ _ h0 hb]; exact lexL_count f _ _ _ _ h
    ·by_cases hr : (nx l).1 = 47 ∧ l[1]? = some 47
     ·rw [lexL_remark f l _ _ _ h0 hr.1 hr.2]; exact lexL_count f _ _ _ _ h
     ·rw [lexL_word f l _ _ _ ⟨h0, h10, fun h => hb (.inl h), fun h => hb (.inr h), hr⟩]
      split
      ·simp
      ·split
       ·simp
       ·exact lexL_count f _ _ _ _ (by simp; omega)
theorem lexL_texts (M : Nat) : ∀ (f : Nat) (l : List UInt8) (line col : Nat) (acc : List Wd), (∀ x ∈ acc, x.text.length ≤ M) → l.length ≤ M → ∀ x ∈ (lexL f l line col acc).1, x.text.length ≤ M
 | 0, l, line, col, acc, h, hl => h
 | f + 1, l, line, col, acc, h, hl => by
  by_cases h0 : l = []
  ·subst h0; rw [lexL_end]; exact h
  ·by_cases h10 : (nx l).1 = 10
   ·rw [lexL_feed f l _ _ _ h0 h10]; exact lexL_texts M f _ _ _ _ h (by rw [List.length_drop]; omega)
   ·by_cases hb : (nx l).1 = 32 ∨ (nx l).1 = 9
    ·rw [lexL_blank f l _ _ _ h0 hb]; exact lexL_texts M f _ _ _ _ h (by rw [List.length_drop]; omega)
    ·by_cases hr : (nx l).1 = 47 ∧ l[1]? = some 47
     ·rw [lexL_remark f l _ _ _ h0 hr.1 hr.2]; exact lexL_texts M f _ _ _ _ h (by rw [List.length_drop]; omega)
     ·rw [lexL_word f l _ _ _ ⟨h0, h10, fun h => hb (.inl h), fun h => hb (.inr h), hr⟩]
      split
      ·simp
      ·split
       ·simp
       ·refine lexL_texts M f _ _ _ _ ?_ (by rw [List.length_drop]; omega)
        intro x hx
        rcases List.mem_append.1 hx with hx | hx
        ·exact h x hx
        ·have : x = ⟨(headW l).1, l.take (headW l).2.1, line, col⟩ := by simpa using hx
         subst this; show (l.take _).length ≤ M; rw [List.length_take]; omega
theorem words_texts (l : List UInt8) : ∀ x ∈ (wordsL l).1, x.text.length ≤ 20000 := by
 unfold wordsL
 split
 ·simp
 ·exact lexL_texts 20000 _ _ _ _ _ (by simp) (by omega)
end Go.Proofs.YtpojeinddnjpfaaGreatDoor
namespace Go.Proofs.YtpojeinddnjpfaaGreatDoor
set_option linter.unusedVariables false

theorem get_app (s y : List UInt8) (k : Nat) (h : k < s.length + 1) : (ByteArray.mk (s ++ 10 :: y).toArray).get! (0 + k) = (ByteArray.mk (s ++ [10]).toArray).get! (0 + k) := by
 have e1 : (s ++ 10 :: y)[k]? = (s ++ [10])[k]? := by
  by_cases hk : k < s.length
  ·rw [List.getElem?_append_left hk, List.getElem?_append_left hk]
  ·have : k = s.length := by omega
   subst this
   rw [List.getElem?_append_right (by omega), List.getElem?_append_right (by omega)]; simp
 rw [Nat.zero_add]
 show (s ++ 10 :: y).toArray[k]! = (s ++ [10]).toArray[k]!
 rw [getElem!_def, getElem!_def]
 simp only [List.getElem?_toArray, e1]
theorem get_feed (s y : List UInt8) : (ByteArray.mk (s ++ 10 :: y).toArray).get! (0 + s.length) = 10 := by
 rw [Nat.zero_add]
 show (s ++ 10 :: y).toArray[s.length]! = 10
 rw [getElem!_def]
 simp
theorem size_app (s y : List UInt8) : (ByteArray.mk (s ++ 10 :: y).toArray).size = s.length + 1 + y.length := by
 show (s ++ 10 :: y).toArray.size = _
 simp; omega
def contA (A : ByteArray) (k : Nat) : Bool := decide (0 + k < A.size) && ((A.get! (0 + k)).toNat / 64 == 2)
theorem cont_end (s y : List UInt8) : contA ⟨(s ++ 10 :: y).toArray⟩ s.length = false := by
 unfold contA; rw [get_feed]; simp
theorem cont_app (s y : List UInt8) (k : Nat) (h : k < s.length + 1) : contA ⟨(s ++ 10 :: y).toArray⟩ k = contA ⟨(s ++ [10]).toArray⟩ k := by
 unfold contA
 rw [get_app s y k h, size_app, size_app s []]
 rw [decide_eq_true (by omega), decide_eq_true (by simp; omega)]

def dec4 (b0 b1 b2 b3 : Nat) (c1 c2 c3 : Bool) : Nat × Nat :=
 if b0 < 128 then (b0, 1)
 else if (b0 / 32 == 6 && c1) = true then (if b0 % 32 * 64 + b1 % 64 ≥ 128 then (b0 % 32 * 64 + b1 % 64, 2) else (65533, 1))
 else if (b0 / 16 == 14 && c1 && c2) = true then (if (decide (b0 % 16 * 4096 + b1 % 64 * 64 + b2 % 64 ≥ 2048) && Utf8.valid ((b0 % 16 * 4096 + b1 % 64 * 64 + b2 % 64 : Nat) : Int)) = true then (b0 % 16 * 4096 + b1 % 64 * 64 + b2 % 64, 3) else (65533, 1))
 else if (b0 / 8 == 30 && c1 && c2 && c3) = true then (if (decide (b0 % 8 * 262144 + b1 % 64 * 4096 + b2 % 64 * 64 + b3 % 64 ≥ 65536) && Utf8.valid ((b0 % 8 * 262144 + b1 % 64 * 4096 + b2 % 64 * 64 + b3 % 64 : Nat) : Int)) = true then (b0 % 8 * 262144 + b1 % 64 * 4096 + b2 % 64 * 64 + b3 % 64, 4) else (65533, 1))
 else (65533, 1)
theorem decode_dec4 (A : ByteArray) : Utf8.decode A 0 = dec4 (A.get! (0 + 0)).toNat (A.get! (0 + 1)).toNat (A.get! (0 + 2)).toNat (A.get! (0 + 3)).toNat (contA A 1) (contA A 2) (contA A 3) := rfl
theorem dec4_c1 (b0 b1 b2 b3 : Nat) (c2 c3 : Bool) : dec4 b0 b1 b2 b3 false c2 c3 = dec4 b0 0 0 0 false false false := by simp [dec4]
theorem dec4_c2 (b0 b1 b2 b3 : Nat) (c1 c3 : Bool) : dec4 b0 b1 b2 b3 c1 false c3 = dec4 b0 b1 0 0 c1 false false := by simp [dec4]
theorem dec4_c3 (b0 b1 b2 b3 : Nat) (c1 c2 : Bool) : dec4 b0 b1 b2 b3 c1 c2 false = dec4 b0 b1 b2 0 c1 c2 false := by simp [dec4]
theorem dec4_w1 (b0 b1 b2 b3 : Nat) (c2 c3 : Bool) : (dec4 b0 b1 b2 b3 false c2 c3).2 ≤ 1 := by
 unfold dec4; split <;> simp
theorem dec4_w2 (b0 b1 b2 b3 : Nat) (c1 c3 : Bool) : (dec4 b0 b1 b2 b3 c1 false c3).2 ≤ 2 := by
 unfold dec4; repeat' split
 all_goals simp_all
theorem dec4_w3 (b0 b1 b2 b3 : Nat) (c1 c2 : Bool) : (dec4 b0 b1 b2 b3 c1 c2 false).2 ≤ 3 := by
 unfold dec4; repeat' split
 all_goals simp_all
theorem dec4_w4 (b0 b1 b2 b3 : Nat) (c1 c2 c3 : Bool) : (dec4 b0 b1 b2 b3 c1 c2 c3).2 ≤ 4 := by
 unfold dec4; repeat' split
 all_goals simp
theorem decode_local (s y : List UInt8) (h : s ≠ []) : Lib.decodeL (s ++ 10 :: y) = Lib.decodeL (s ++ [10]) ∧ (Lib.decodeL (s ++ 10 :: y)).2 ≤ s.length := by
 have hp := List.length_pos_iff.2 h
 unfold Lib.decodeL
 rw [decode_dec4, decode_dec4]
 have g := get_app s y
 have c := cont_app s y
 have ce := cont_end s y
 have ce0 := cont_end s []
 have hs : s.length = 1 ∨ s.length = 2 ∨ s.length = 3 ∨ 4 ≤ s.length := by omega
 rcases hs with hs | hs | hs | hs
 ·rw [hs] at ce ce0
  rw [ce, ce0, g 0 (by omega), hs]
  exact ⟨(dec4_c1 _ _ _ _ _ _).trans (dec4_c1 _ _ _ _ _ _).symm, dec4_w1 _ _ _ _ _ _⟩
 ·rw [hs] at ce ce0
  rw [ce, ce0, g 0 (by omega), g 1 (by omega), c 1 (by omega), hs]
  exact ⟨(dec4_c2 _ _ _ _ _ _).trans (dec4_c2 _ _ _ _ _ _).symm, dec4_w2 _ _ _ _ _ _⟩
 ·rw [hs] at ce ce0
  rw [ce, ce0, g 0 (by omega), g 1 (by omega), g 2 (by omega), c 1 (by omega), c 2 (by omega), hs]
  exact ⟨(dec4_c3 _ _ _ _ _ _).trans (dec4_c3 _ _ _ _ _ _).symm, dec4_w3 _ _ _ _ _ _⟩
 ·rw [g 0 (by omega), g 1 (by omega), g 2 (by omega), g 3 (by omega), c 1 (by omega), c 2 (by omega), c 3 (by omega)]
  exact ⟨rfl, Nat.le_trans (dec4_w4 _ _ _ _ _ _ _) hs⟩
theorem nx_local (s y : List UInt8) (h : s ≠ []) : nx (s ++ 10 :: y) = nx (s ++ [10]) ∧ (nx (s ++ 10 :: y)).2 ≤ s.length := by
 obtain ⟨h1, h2⟩ := decode_local s y h
 have e : nx (s ++ 10 :: y) = nx (s ++ [10]) := by
  unfold nx; rw [if_neg (c := s ++ 10 :: y = []) (by simp), if_neg (c := s ++ [10] = []) (by simp), h1]
 refine ⟨e, ?_⟩
 unfold nx
 rw [if_neg (c := s ++ 10 :: y = []) (by simp)]
 split <;> exact h2
theorem drop_local (s y : List UInt8) (n : Nat) (h : n ≤ s.length) : (s ++ 10 :: y).drop n = s.drop n ++ 10 :: y := by
 rw [List.drop_append_of_le_length h]
theorem nx_feed (y : List UInt8) : nx (10 :: y) = (10, 1) := nx_ascii 10 y (by decide)
end Go.Proofs.YtpojeinddnjpfaaGreatDoor
namespace Go.Proofs.YtpojeinddnjpfaaGreatDoor
set_option linter.unusedVariables false

def kt (l : List Wd) : List (Int × List UInt8) := l.map fun x => (x.kind, x.text)
theorem skip_all : ∀ (n : Nat) (r y : List UInt8), r.length ≤ n → (∀ b ∈ r, b ≠ 10) → ∀ f, r.length ≤ f → (skipL f (r ++ 10 :: y)).1 = r.length
 | n, [], y, hn, h, f, hf => by
  simp only [List.nil_append]
  rw [skipL_stop _ _ (.inr rfl)]; rfl
 | 0, a :: r, y, hn, h, f, hf => by simp at hn
 | n + 1, a :: r, y, hn, h, f, hf => by
  obtain ⟨f, rfl⟩ : ∃ f', f = f' + 1 := ⟨f - 1, by simp at hf; omega⟩
  obtain ⟨_, h2⟩ := nx_local (a :: r) y (by simp)
  have hw := (nx_width (a :: r ++ 10 :: y) (by simp)).1
  rw [skipL_step f _ (by simp) (by have := h a List.mem_cons_self; simpa using this), drop_local _ y _ h2]
  simp only
  rw [skip_all n _ y (by rw [List.length_drop]; omega) (fun b hb => h b (List.mem_of_mem_drop hb)) f (by rw [List.length_drop]; omega), List.length_drop]
  omega
end Go.Proofs.YtpojeinddnjpfaaGreatDoor
