/-
  The runes of a text, and which of them make a name: plain words of this seat. Nothing is proved of the program here.
  The other forms of a name, as lists of runes, and their bytes: plain words and facts of this seat. Nothing is proved of the program here.
  The words of a text, as plain functions over its bytes: what stands at its head, how far a name or a number goes, how far a remark; and the words with their places. Nothing is proved of the program here.
  Facts on the words of a text: no more rounds are needed than there are bytes; a line further down all is the same; places rise. Nothing is proved of the program here.
  A remark says nothing: how a text is read up to a line feed does not hang on what stands behind it. Nothing is proved of the program here.
  A remark says nothing, the rest: how a text is read up to a line feed, whatever stands behind it. Nothing is proved of the program here.
  What is written of the words, a blank behind each, has the same words. Nothing is proved of the program here.
  What stands at the head of a text does not hang on what stands behind it, if that begins with a sign that is no part of it; so two texts, one behind the other, have both one's words. Facts of the plain functions: nothing is proved of the program here.
  Which words are types, and which are reserved. Nothing is proved of the program here.
  Declarations, and how they are read off the words of a text, as plain functions: a reader with the words that are left, the first error and its place. Nothing is proved of the program here.
  What is read of words is so short that slices of it can be made. Nothing is proved of the program here.
  Declarations in memory: what their cells hold, whichever blocks they lie in. Nothing is proved of the program here.
  Words and slices in memory, and steps of the plain reader: what the walks share. Nothing is proved of the program here.
  Behind an error a reader of words stays as it is: facts of the plain functions. Nothing is proved of the program here.
  Two readers whose words are alike but for places, the second one's with more words behind them: what is read of both is alike but for places. Facts of the plain functions: nothing is proved of the program here.
  Two readers whose words are alike but for places, the second one's with more words behind them: enums, services, messages and whole lists of declarations. Facts of the plain functions: nothing is proved of the program here.
  What stands between dots, and which texts are names and paths: plain words and their facts. Nothing is proved of the program here.
  The text of declarations, and which are formed, as plain functions; and the words of that text. Nothing is proved of the program here.
  What is read of the words of declarations that are formed: the same declarations, but for places. Facts of the plain functions: nothing is proved of the program here.
  How the program goes along a text, rune by rune, held against the words of the text: plain words over bytes. Nothing is proved of the program here.
-/
import Derived.WalkKit
import Derived.ProofKit
import Derived.Below
import Derived.Laws.RangeAny
import Derived.Laws.IdiomStrings
import Derived.Lib.Strings
import Derived.Lib.RuneBytes
import Derived.Lib.RuneCount
import Derived.Lib.TrimUEq
import Derived.Lib.MapLaws
import Derived.Lib.TrimAscii
import Derived.Laws.AppendOwn
import Derived.OwnWalk
import Derived.Maps.AppendAt
import Derived.BigQuiet
import Derived.Deep.QuietTactic
import Derived.Deep.AppendLies
import Derived.Lib.Hide
import Derived.Lib.Split
import Derived.Lib.IndexMore
import Derived.Lib.ItoaMem
import Derived.Lib.ItoaLen
import Derived.Lib.ParseIntB
import Derived.Lib.Bytealg
namespace Go.Proofs.YtngmimbpakmkiaaGreatDoor
set_option linter.unusedVariables false
open Go.ChangeShapes Go.WideShapes Go.ChangeAt Go.RowKit

theorem len_data (s : ByteArray) : s.data.toList.length = s.size := by first | exact Lib.size_eq s | exact (Lib.size_eq s).symm
theorem at_data (s : ByteArray) (k : Nat) (h : k < s.size) : s.data.toList[k]? = some (s[k]'h) := by
  rw [List.getElem?_eq_getElem (by rw [len_data]; exact h)]; rfl
theorem head_data (s : ByteArray) (h : 0 < s.size) : s.data.toList = s[0]'h :: s.data.toList.drop 1 := by
  have := List.drop_eq_getElem_cons (l := s.data.toList) (i := 0) (by rw [len_data]; exact h)
  rw [List.drop_zero] at this
  exact this
/-- the runes from a place on -/
def rns (s : ByteArray) : Nat → Nat → List Int
  | 0, _ => []
  | f + 1, i => if i < s.size then ((Utf8.decode s i).1 : Int) :: rns s f (i + (Utf8.decode s i).2) else []
/-- the runes of a text -/
def runes (s : ByteArray) : List Int := rns s s.size 0
theorem runesFrom_rns (s : ByteArray) : ∀ (b i : Nat) (acc : Array Value), Conv.runesFrom s b i acc = acc ++ ((rns s b i).map (Value.int .i32)).toArray
  | 0, i, acc => by simp [Conv.runesFrom, rns]
  | b + 1, i, acc => by
    unfold Conv.runesFrom rns
    split
    · show Conv.runesFrom s b (i + (Utf8.decode s i).2) (acc.push (.int .i32 (Int.ofNat (Utf8.decode s i).1))) = _
      rw [runesFrom_rns s b]
      simp
    · simp
theorem runes_eq (s : ByteArray) : Conv.runesFrom s s.size 0 #[] = ((runes s).map (Value.int .i32)).toArray := by
  rw [runesFrom_rns]; simp [runes]
theorem rns_len (s : ByteArray) : ∀ b i, (rns s b i).length ≤ b
  | 0, i => by simp [rns]
  | b + 1, i => by
    unfold rns
    split
    · have := rns_len s b (i + (Utf8.decode s i).2); simp; omega
    · simp
theorem runes_len (s : ByteArray) : (runes s).length ≤ s.size := rns_len s _ _
theorem rns_step (s : ByteArray) (b i : Nat) (h : i < s.size) : rns s (b + 1) i = ((Utf8.decode s i).1 : Int) :: rns s b (i + (Utf8.decode s i).2) := by
  rw [rns, if_pos h]
theorem rns_end (s : ByteArray) (b i : Nat) (h : ¬ i < s.size) : rns s b i = [] := by
  cases b with
  | zero => rfl
  | succ b => rw [rns, if_neg h]
theorem width_pos (s : ByteArray) (pos : Nat) (h : pos < s.size) : 1 ≤ (Utf8.decode s pos).2 := by
  by_cases ha : (s[pos]'h).toNat < 128
  · rw [decode_ascii s pos h ha]
    exact Nat.le_refl _
  · exact (decode_high s pos h (by omega)).2

/-- whether a rune is a letter -/
def isLetter (r : Int) : Bool := decide ((97 ≤ r ∧ r ≤ 122) ∨ (65 ≤ r ∧ r ≤ 90) ∨ (913 ≤ r ∧ r ≤ 969))
def isDigit (r : Int) : Bool := decide (48 ≤ r ∧ r ≤ 57)
theorem retB {a b : Bool} (h : a = b) : Ending.returned (.bool a) = .returned (.bool b) := by rw [h]
/-- whether a rune may stand in a name -/
def nameRune (r : Int) : Bool := isLetter r || isDigit r || decide (r = 95)
/-- whether runes are a name -/
def nameOf (l : List Int) : Bool := decide (1 ≤ l.length ∧ l.length ≤ 40) && isLetter (l.headD 0) && l.all nameRune
theorem all_drop {l : List Int} {k : Nat} {z : Int} (h : l[k]? = some z) (p : Int → Bool) : (l.drop k).all p = (p z && (l.drop (k + 1)).all p) := by
  have hlt := (List.getElem?_eq_some_iff.1 h).1
  rw [List.drop_eq_getElem_cons hlt, List.all_cons]
  rw [(List.getElem?_eq_some_iff.1 h).2]

/-- whether a rune may stand in a name, at its first place or behind it -/
def fitsAt (first : Bool) (r : Int) : Bool := isLetter r || (!first && (decide (r = 95) || isDigit r))
/-- whether runes go on as a name behind so many -/
def okFrom : Nat → List Int → Bool
  | acc, [] => decide (0 < acc)
  | acc, r :: t => decide (acc < 40) && fitsAt (acc == 0) r && okFrom (acc + 1) t
theorem nameRune_fits (r : Int) : nameRune r = fitsAt false r := by
  unfold nameRune fitsAt
  generalize isLetter r = a; generalize isDigit r = b; generalize decide (r = 95) = c
  cases a <;> cases b <;> cases c <;> rfl
theorem okFrom_pos : ∀ (l : List Int) (acc : Nat), 0 < acc → okFrom acc l = (decide (acc + l.length ≤ 40 ∨ l = []) && l.all nameRune)
  | [], acc, h => by simp [okFrom, h]
  | r :: t, acc, h => by
    have h0 : (acc == 0) = false := by simp; omega
    rw [okFrom, okFrom_pos t (acc + 1) (by omega), h0, ← nameRune_fits, List.all_cons]
    have e : (decide (acc < 40) && decide (acc + 1 + t.length ≤ 40 ∨ t = [])) = decide (acc + (r :: t).length ≤ 40 ∨ r :: t = []) := by
      rw [Bool.eq_iff_iff]
      simp only [Bool.and_eq_true, decide_eq_true_iff, List.length_cons, reduceCtorEq, or_false]
      constructor
      · rintro ⟨a, b | b⟩
        · omega
        · subst b; simp; omega
      · intro a; exact ⟨by omega, .inl (by omega)⟩
    rw [← e]
    generalize decide (acc < 40) = a; generalize decide (acc + 1 + t.length ≤ 40 ∨ t = []) = b; generalize nameRune r = c; generalize t.all nameRune = d
    cases a <;> cases b <;> cases c <;> cases d <;> rfl
theorem okFrom_name (l : List Int) : okFrom 0 l = nameOf l := by
  cases l with
  | nil => simp [okFrom, nameOf]
  | cons r t =>
    rw [okFrom, okFrom_pos t 1 (by omega)]
    unfold nameOf
    have e1 : fitsAt (0 == 0) r = isLetter r := by unfold fitsAt; simp
    rw [e1]
    have e2 : decide (1 ≤ (r :: t).length ∧ (r :: t).length ≤ 40) = decide (1 + t.length ≤ 40 ∨ t = []) := by
      rw [Bool.eq_iff_iff]
      simp only [decide_eq_true_iff, List.length_cons]
      constructor
      · intro a; exact .inl (by omega)
      · rintro (a | a)
        · omega
        · subst a; simp
    rw [e2, List.all_cons]
    have e3 : isLetter r = true → nameRune r = true := fun h => by unfold nameRune; rw [h]; rfl
    simp only [List.headD_cons]
    revert e3
    generalize isLetter r = a; generalize decide (1 + t.length ≤ 40 ∨ t = []) = b; generalize nameRune r = c; generalize t.all nameRune = d
    cases a <;> cases b <;> cases c <;> cases d <;> simp
end Go.Proofs.YtngmimbpakmkiaaGreatDoor
namespace Go.Proofs.YtngmimbpakmkiaaGreatDoor
set_option linter.unusedVariables false

def isSmall (r : Int) : Bool := decide (97 ≤ r ∧ r ≤ 122)
def isGreat (r : Int) : Bool := decide (65 ≤ r ∧ r ≤ 90)
/-- without the _, each part begun with a great letter; b: a part begins here -/
def camelL : Bool → List Int → List Int
  | _, [] => []
  | b, r :: t => if r = 95 then camelL true t else (if (b && isSmall r) = true then r - 32 else r) :: camelL false t
/-- great letters small, a _ ahead of each but the first rune -/
def snakeL : Bool → List Int → List Int
  | _, [] => []
  | f, r :: t => if isGreat r = true then (if f = true then (r + 32) :: snakeL false t else 95 :: (r + 32) :: snakeL false t) else r :: snakeL false t
/-- the bytes of runes -/
def encL (l : List Int) : List UInt8 := l.flatMap Lib.encodeRune
theorem encL_nil : encL [] = [] := rfl
theorem encL_cons (r : Int) (t : List Int) : encL (r :: t) = Lib.encodeRune r ++ encL t := by simp [encL]
theorem encL_append (a b : List Int) : encL (a ++ b) = encL a ++ encL b := by simp [encL]
theorem enc_len (r : Int) : 1 ≤ (Lib.encodeRune r).length ∧ (Lib.encodeRune r).length ≤ 4 := by
  have := Lib.runeCells_le r; rw [Lib.runeCells_length] at this; exact this
theorem encL_len : ∀ l : List Int, l.length ≤ (encL l).length ∧ (encL l).length ≤ 4 * l.length
  | [] => by simp [encL]
  | r :: t => by have := encL_len t; have := enc_len r; rw [encL_cons]; simp; omega
theorem enc_small (r : Int) (h : 0 ≤ r) (h1 : r ≤ 127) : Lib.encodeRune r = [UInt8.ofNat r.toNat] := by
  unfold Lib.encodeRune; rw [Lib.encodeRuneZ_one h h1]; rfl
theorem enc_two (r : Int) (h : 128 ≤ r) (h1 : r ≤ 2047) : Lib.encodeRune r = [UInt8.ofNat (192 + r / 64).toNat, UInt8.ofNat (128 + r % 64).toNat] := by
  unfold Lib.encodeRune; rw [Lib.encodeRuneZ_two h h1]; rfl

theorem get_pre (p t : List UInt8) (k : Nat) (x : UInt8) (h : t[k]? = some x) : (ByteArray.mk (p ++ t).toArray).get! (p.length + k) = x := by
  have h2 : (p ++ t)[p.length + k]? = some x := by rw [List.getElem?_append_right (by omega)]; simpa using h
  show (p ++ t).toArray[p.length + k]! = x
  rw [getElem!_def]
  simp [h2]
theorem size_pre (p t : List UInt8) : (ByteArray.mk (p ++ t).toArray).size = p.length + t.length := by
  show (p ++ t).toArray.size = _
  simp
theorem decode_enc1 (p t : List UInt8) (r : Int) (h : 0 ≤ r) (h1 : r ≤ 127) :
    Utf8.decode ⟨(p ++ (Lib.encodeRune r ++ t)).toArray⟩ p.length = (r.toNat, 1) := by
  rw [enc_small r h h1]
  have g0 := get_pre p ([UInt8.ofNat r.toNat] ++ t) 0 (UInt8.ofNat r.toNat) rfl
  have e0 : (UInt8.ofNat r.toNat).toNat = r.toNat := by simp; omega
  unfold Utf8.decode
  simp only [g0, e0]
  rw [if_pos (by omega)]
theorem decode_enc2 (p t : List UInt8) (r : Int) (h : 128 ≤ r) (h1 : r ≤ 2047) :
    Utf8.decode ⟨(p ++ (Lib.encodeRune r ++ t)).toArray⟩ p.length = (r.toNat, 2) := by
  rw [enc_two r h h1]
  have g0 := get_pre p ([UInt8.ofNat (192 + r / 64).toNat, UInt8.ofNat (128 + r % 64).toNat] ++ t) 0 _ rfl
  have g1 := get_pre p ([UInt8.ofNat (192 + r / 64).toNat, UInt8.ofNat (128 + r % 64).toNat] ++ t) 1 _ rfl
  have hz := size_pre p ([UInt8.ofNat (192 + r / 64).toNat, UInt8.ofNat (128 + r % 64).toNat] ++ t)
  have e0 : (UInt8.ofNat (192 + r / 64).toNat).toNat = (192 + r / 64).toNat := by simp; omega
  have e1 : (UInt8.ofNat (128 + r % 64).toNat).toNat = (128 + r % 64).toNat := by simp; omega
  unfold Utf8.decode
  simp only [g0, g1, e0, e1, hz]
  have a1 : ¬ (192 + r / 64).toNat < 128 := by omega
  have a2 : ((192 + r / 64).toNat / 32 == 6) = true := by simp; omega
  have a3 : (decide (p.length + 1 < p.length + ([UInt8.ofNat (192 + r / 64).toNat, UInt8.ofNat (128 + r % 64).toNat] ++ t).length) && (128 + r % 64).toNat / 64 == 2) = true := by simp; omega
  rw [if_neg a1, a2, a3]
  simp only [Bool.and_true, if_true]
  rw [if_pos (by omega)]
  congr 1
  omega
/-- a rune of one or two bytes -/
def two (r : Int) : Prop := 0 ≤ r ∧ r ≤ 2047
theorem decode_enc (p t : List UInt8) (r : Int) (h : two r) :
    Utf8.decode ⟨(p ++ (Lib.encodeRune r ++ t)).toArray⟩ p.length = (r.toNat, (Lib.encodeRune r).length) := by
  obtain ⟨h0, h1⟩ := h
  by_cases hr : r ≤ 127
  · rw [decode_enc1 p t r h0 hr, enc_small r h0 hr]; rfl
  · rw [decode_enc2 p t r (by omega) h1, enc_two r (by omega) h1]; rfl
theorem rns_enc : ∀ (l : List Int) (p : List UInt8) (b : Nat), (∀ r ∈ l, two r) → (encL l).length ≤ b → rns ⟨(p ++ encL l).toArray⟩ b p.length = l
  | [], p, b, _, _ => by
    refine rns_end _ _ _ ?_
    rw [size_pre]; simp [encL]
  | r :: t, p, b, h, hb => by
    have hr := h r List.mem_cons_self
    have hl := enc_len r
    have hsz := size_pre p (encL (r :: t))
    rw [encL_cons] at hb hsz ⊢
    rw [List.length_append] at hb hsz
    obtain ⟨b, rfl⟩ : ∃ b', b = b' + 1 := ⟨b - 1, by omega⟩
    rw [rns_step _ _ _ (by rw [hsz]; omega), decode_enc p (encL t) r hr]
    have e : (p ++ (Lib.encodeRune r ++ encL t)) = (p ++ Lib.encodeRune r) ++ encL t := by simp
    have ih := rns_enc t (p ++ Lib.encodeRune r) b (fun x hx => h x (List.mem_cons_of_mem _ hx)) (by omega)
    rw [← e, List.length_append] at ih
    rw [ih]
    congr 1
    have := hr.1
    show ((r.toNat : Nat) : Int) = r
    omega
/-- the runes of the bytes of runes -/
theorem runes_enc (l : List Int) (h : ∀ r ∈ l, two r) : runes ⟨(encL l).toArray⟩ = l := by
  have := rns_enc l [] (encL l).length h (Nat.le_refl _)
  simpa [runes, ByteArray.size] using this
theorem runeCount_rns (s : ByteArray) : ∀ b i, Lib.runeCountFrom s b i = (rns s b i).length
  | 0, i => rfl
  | b + 1, i => by
    rw [Lib.runeCountFrom, rns]
    split
    · rw [runeCount_rns s b, List.length_cons]; omega
    · rfl
theorem runeCount_runes (s : ByteArray) : Lib.runeCount s = (runes s).length := runeCount_rns s _ _

/-! the runes of a name are of one or two bytes, and its other forms' -/
theorem two_of_name {r : Int} (h : nameRune r = true) : two r := by
  unfold nameRune isLetter isDigit at h
  simp only [Bool.or_eq_true, decide_eq_true_iff] at h
  unfold two; omega
theorem camel_name : ∀ (l : List Int) (b : Bool), (∀ r ∈ l, nameRune r = true) → ∀ r ∈ camelL b l, nameRune r = true ∧ r ≠ 95
  | [], b, _, r, hr => by simp [camelL] at hr
  | x :: t, b, h, r, hr => by
    rw [camelL] at hr
    have ht := fun b' => camel_name t b' (fun y hy => h y (List.mem_cons_of_mem _ hy)) r
    split at hr
    · exact ht true hr
    · rename_i hx
      rcases List.mem_cons.1 hr with rfl | hr
      · have hn := h x List.mem_cons_self
        split
        · rename_i hb
          simp only [Bool.and_eq_true, isSmall, decide_eq_true_iff] at hb
          refine ⟨?_, by omega⟩
          unfold nameRune isLetter isDigit
          simp only [Bool.or_eq_true, decide_eq_true_iff]
          omega
        · exact ⟨hn, hx⟩
      · exact ht false hr
theorem snake_name : ∀ (l : List Int) (f : Bool), (∀ r ∈ l, nameRune r = true) → ∀ r ∈ snakeL f l, nameRune r = true
  | [], f, _, r, hr => by simp [snakeL] at hr
  | x :: t, f, h, r, hr => by
    rw [snakeL] at hr
    have ht := snake_name t false (fun y hy => h y (List.mem_cons_of_mem _ hy)) r
    have hn := h x List.mem_cons_self
    have h95 : nameRune 95 = true := by decide
    split at hr
    · rename_i hg
      have hs : nameRune (x + 32) = true := by
        simp only [isGreat, decide_eq_true_iff] at hg
        unfold nameRune isLetter isDigit
        simp only [Bool.or_eq_true, decide_eq_true_iff]
        omega
      split at hr
      · rcases List.mem_cons.1 hr with rfl | hr
        · exact hs
        · exact ht hr
      · rcases List.mem_cons.1 hr with rfl | hr
        · exact h95
        · rcases List.mem_cons.1 hr with rfl | hr
          · exact hs
          · exact ht hr
    · rcases List.mem_cons.1 hr with rfl | hr
      · exact hn
      · exact ht hr
theorem name_all {l : List Int} (h : nameOf l = true) : ∀ r ∈ l, nameRune r = true := by
  unfold nameOf at h
  simp only [Bool.and_eq_true, List.all_eq_true] at h
  exact h.2
theorem camel_len : ∀ (l : List Int) (b : Bool), (camelL b l).length ≤ l.length
  | [], b => by simp [camelL]
  | x :: t, b => by
    have := camel_len t true; have := camel_len t false
    rw [camelL]; split <;> simp <;> omega
theorem snake_len : ∀ (l : List Int) (f : Bool), (snakeL f l).length ≤ 2 * l.length
  | [], f => by simp [snakeL]
  | x :: t, f => by
    have := snake_len t false
    rw [snakeL]; split
    · split <;> simp <;> omega
    · simp; omega
end Go.Proofs.YtngmimbpakmkiaaGreatDoor
namespace Go.Proofs.YtngmimbpakmkiaaGreatDoor
set_option linter.unusedVariables false

/-- the rune at the head, and its bytes; -1: it is none -/
def nx (l : List UInt8) : Int × Nat :=
  if l = [] then (-1, 0) else if (Lib.decodeL l).1 = 65533 ∧ (Lib.decodeL l).2 ≤ 1 then (-1, (Lib.decodeL l).2) else ((Lib.decodeL l).1, (Lib.decodeL l).2)
theorem nx_width (l : List UInt8) (h : l ≠ []) : 1 ≤ (nx l).2 ∧ (nx l).2 ≤ l.length := by
  have h1 := Lib.decodeL_width l
  have h2 := Lib.decodeL_le l h
  unfold nx
  rw [if_neg h]
  split <;> exact ⟨h1, h2⟩
theorem nx_ascii (b : UInt8) (t : List UInt8) (h : b.toNat < 128) : nx (b :: t) = ((b.toNat : Int), 1) := by
  unfold nx
  rw [if_neg (by simp), Lib.decodeL_ascii b t h, if_neg (by omega)]
theorem nx_high (b : UInt8) (t : List UInt8) (h : 128 ≤ b.toNat) : (nx (b :: t)).1 = -1 ∨ 128 ≤ (nx (b :: t)).1 := by
  have hd : 128 ≤ (Lib.decodeL (b :: t)).1 := by
    unfold Lib.decodeL
    have := decode_high ⟨(b :: t).toArray⟩ 0 (by show 0 < (b :: t).toArray.size; simp) (show 128 ≤ b.toNat from h)
    exact this.1
  unfold nx
  rw [if_neg (by simp)]
  split
  · exact .inl rfl
  · right; show (128 : Int) ≤ ((Lib.decodeL (b :: t)).1 : Int); omega
theorem nx_le (l : List UInt8) : -1 ≤ (nx l).1 ∧ (nx l).1 ≤ 1114111 := by
  have h := Lib.decodeL_rune l
  unfold nx
  split
  · simp
  · split
    · simp
    · show (-1 : Int) ≤ ((Lib.decodeL l).1 : Int) ∧ ((Lib.decodeL l).1 : Int) ≤ 1114111
      omega

/-- how many bytes of letters, digits and _ stand at the head, and how many runes -/
def runL : Nat → List UInt8 → Nat × Nat
  | 0, _ => (0, 0)
  | f + 1, l => if l ≠ [] ∧ nameRune (nx l).1 = true then ((nx l).2 + (runL f (l.drop (nx l).2)).1, (runL f (l.drop (nx l).2)).2 + 1) else (0, 0)
/-- how many bytes there are up to a line feed, and how many runes -/
def skipL : Nat → List UInt8 → Nat × Nat
  | 0, _ => (0, 0)
  | f + 1, l => if l ≠ [] ∧ l.head? ≠ some 10 then ((nx l).2 + (skipL f (l.drop (nx l).2)).1, (skipL f (l.drop (nx l).2)).2 + 1) else (0, 0)
/-- the number that digits are -/
def numV (n : Int) (l : List UInt8) : Int := l.foldl (fun n b => 10 * n + ((b.toNat : Int) - 48)) n
def isDig (b : UInt8) : Bool := decide (48 ≤ b.toNat ∧ b.toNat ≤ 57)
/-- are digits a number? -/
def numL (l : List UInt8) : Bool := decide (l.length ≤ 10) && !(decide (l.head? = some 48) && decide (1 < l.length)) && decide (numV 0 l ≤ 2147483647)
def signR (r : Int) : Bool := decide (r = 123 ∨ r = 125 ∨ r = 40 ∨ r = 41 ∨ r = 61 ∨ r = 59 ∨ r = 46)
/-- is it a word? -/
def rightL (kind : Int) (t : List UInt8) (r : Int) : Bool :=
  if kind = 1 then nameOf (runes ⟨t.toArray⟩) else if kind = 2 then t.all isDig && numL t else signR r
def mkB (l : List UInt8) : ByteArray := ⟨l.toArray⟩
theorem mkB_data (x : ByteArray) : mkB x.data.toList = x := rfl
theorem mkB_list (l : List UInt8) : (mkB l).toList = l := by rw [ByteArray.toList_eq]; rfl
structure Wd where
  kind : Int
  text : List UInt8
  line : Nat
  col : Nat
/-- the kind, the bytes and the runes of what begins at the head -/
def headW (l : List UInt8) : Int × Nat × Nat :=
  if isLetter (nx l).1 = true then (1, runL l.length l) else if isDigit (nx l).1 = true then (2, runL l.length l) else (3, (nx l).2, 1)
/-- the words from here on, behind those that are told; the place and the error, if there is one -/
def lexL : Nat → List UInt8 → Nat → Nat → List Wd → List Wd × (Nat × Nat) × Int
  | 0, _, _, _, acc => (acc, (0, 0), 0)
  | f + 1, l, line, col, acc =>
    if l = [] then (acc, (0, 0), 0)
    else if (nx l).1 = 10 then lexL f (l.drop 1) (line + 1) 1 acc
    else if (nx l).1 = 32 ∨ (nx l).1 = 9 then lexL f (l.drop 1) line (col + 1) acc
    else if (nx l).1 = 47 ∧ l[1]? = some 47 then lexL f (l.drop (skipL l.length l).1) line (col + (skipL l.length l).2) acc
    else if rightL (headW l).1 (l.take (headW l).2.1) (nx l).1 = false then ([], (line, col), 6)
    else if acc.length = 4000 then ([], (line, col), 4)
    else lexL f (l.drop (headW l).2.1) line (col + (headW l).2.2) (acc ++ [⟨(headW l).1, l.take (headW l).2.1, line, col⟩])
theorem lexL_end (f line col : Nat) (acc : List Wd) : lexL f [] line col acc = (acc, (0, 0), 0) := by
  cases f with
  | zero => rfl
  | succ f => rw [lexL, if_pos rfl]
theorem lexL_feed (f : Nat) (l : List UInt8) (line col : Nat) (acc : List Wd) (h : l ≠ []) (hr : (nx l).1 = 10) : lexL (f + 1) l line col acc = lexL f (l.drop 1) (line + 1) 1 acc := by
  rw [lexL, if_neg h, if_pos hr]
theorem lexL_blank (f : Nat) (l : List UInt8) (line col : Nat) (acc : List Wd) (h : l ≠ []) (hr : (nx l).1 = 32 ∨ (nx l).1 = 9) : lexL (f + 1) l line col acc = lexL f (l.drop 1) line (col + 1) acc := by
  rw [lexL, if_neg h, if_neg (by omega), if_pos hr]
theorem lexL_remark (f : Nat) (l : List UInt8) (line col : Nat) (acc : List Wd) (h : l ≠ []) (hr : (nx l).1 = 47) (h1 : l[1]? = some 47) : lexL (f + 1) l line col acc = lexL f (l.drop (skipL l.length l).1) line (col + (skipL l.length l).2) acc := by
  rw [lexL, if_neg h, if_neg (by omega), if_neg (by omega), if_pos ⟨hr, h1⟩]
/-- where a word should begin -/
def begins (l : List UInt8) : Prop := l ≠ [] ∧ (nx l).1 ≠ 10 ∧ (nx l).1 ≠ 32 ∧ (nx l).1 ≠ 9 ∧ ¬ ((nx l).1 = 47 ∧ l[1]? = some 47)
theorem lexL_word (f : Nat) (l : List UInt8) (line col : Nat) (acc : List Wd) (h : begins l) : lexL (f + 1) l line col acc =
    if rightL (headW l).1 (l.take (headW l).2.1) (nx l).1 = false then ([], (line, col), 6)
    else if acc.length = 4000 then ([], (line, col), 4)
    else lexL f (l.drop (headW l).2.1) line (col + (headW l).2.2) (acc ++ [⟨(headW l).1, l.take (headW l).2.1, line, col⟩]) := by
  obtain ⟨h0, h1, h2, h3, h4⟩ := h
  rw [lexL, if_neg h0, if_neg h1, if_neg (by omega), if_neg h4]
theorem runL_le : ∀ (f : Nat) (l : List UInt8), (runL f l).1 ≤ l.length ∧ (runL f l).2 ≤ (runL f l).1
  | 0, l => by simp [runL]
  | f + 1, l => by
    unfold runL
    split
    · rename_i h
      have hw := nx_width l h.1
      have ih := runL_le f (l.drop (nx l).2)
      rw [List.length_drop] at ih
      simp only
      omega
    · simp
theorem skipL_le : ∀ (f : Nat) (l : List UInt8), (skipL f l).1 ≤ l.length ∧ (skipL f l).2 ≤ (skipL f l).1
  | 0, l => by simp [skipL]
  | f + 1, l => by
    unfold skipL
    split
    · rename_i h
      have hw := nx_width l h.1
      have ih := skipL_le f (l.drop (nx l).2)
      rw [List.length_drop] at ih
      simp only
      omega
    · simp
theorem skipL_step (f : Nat) (l : List UInt8) (h : l ≠ []) (hr : l.head? ≠ some 10) : skipL (f + 1) l = ((nx l).2 + (skipL f (l.drop (nx l).2)).1, (skipL f (l.drop (nx l).2)).2 + 1) := by rw [skipL, if_pos ⟨h, hr⟩]
theorem skipL_stop (f : Nat) (l : List UInt8) (h : l = [] ∨ l.head? = some 10) : skipL f l = (0, 0) := by
  cases f with
  | zero => rfl
  | succ f =>
    rw [skipL, if_neg]
    rintro ⟨h1, h2⟩
    rcases h with h | h
    · exact h1 h
    · exact h2 h
theorem runL_pos (f : Nat) (l : List UInt8) (h : l ≠ []) (hr : nameRune (nx l).1 = true) : 1 ≤ (runL (f + 1) l).1 ∧ 1 ≤ (runL (f + 1) l).2 := by
  have hw := nx_width l h
  rw [runL, if_pos ⟨h, hr⟩]
  simp only
  omega
theorem headW_bd (l : List UInt8) (h : l ≠ []) : 1 ≤ (headW l).2.1 ∧ (headW l).2.1 ≤ l.length ∧ (headW l).2.2 ≤ (headW l).2.1 ∧ ((headW l).1 = 1 ∨ (headW l).1 = 2 ∨ (headW l).1 = 3) := by
  have hw := nx_width l h
  have hl := runL_le l.length l
  obtain ⟨m, hm⟩ : ∃ m, l.length = m + 1 := ⟨l.length - 1, by omega⟩
  unfold headW
  split
  · rename_i hL
    have := runL_pos m l h (by unfold nameRune; rw [hL]; rfl)
    rw [hm] at hl ⊢
    exact ⟨this.1, hl.1, hl.2, .inl rfl⟩
  · split
    · rename_i hL hD
      have := runL_pos m l h (by unfold nameRune; rw [hD]; simp)
      rw [hm] at hl ⊢
      exact ⟨this.1, hl.1, hl.2, .inr (.inl rfl)⟩
    · exact ⟨hw.1, hw.2, hw.1, .inr (.inr rfl)⟩
/-- the words of a text -/
def wordsL (l : List UInt8) : List Wd × (Nat × Nat) × Int := if 20000 < l.length then ([], (1, 1), 4) else lexL l.length l 1 1 []
end Go.Proofs.YtngmimbpakmkiaaGreatDoor
namespace Go.Proofs.YtngmimbpakmkiaaGreatDoor
set_option linter.unusedVariables false

theorem drop_lt (l : List UInt8) (n : Nat) (h : l ≠ []) (hn : 1 ≤ n) : (l.drop n).length < l.length := by
  have : 0 < l.length := List.length_pos_iff.2 h
  rw [List.length_drop]; omega
theorem skipL_one (l : List UInt8) (h : l ≠ []) (hr : l.head? ≠ some 10) : 1 ≤ (skipL l.length l).1 := by
  obtain ⟨m, hm⟩ : ∃ m, l.length = m + 1 := ⟨l.length - 1, by have := List.length_pos_iff.2 h; omega⟩
  have := (nx_width l h).1
  rw [hm, skipL_step m l h hr]; simp only; omega
theorem head_nx (l : List UInt8) (h : l ≠ []) (hr : (nx l).1 ≠ 10) : l.head? ≠ some 10 := by
  cases l with
  | nil => exact absurd rfl h
  | cons b t =>
    intro e
    have : b = 10 := by simpa using e
    subst this
    rw [nx_ascii _ _ (by decide)] at hr
    exact hr rfl
/-- the rounds that are left over do nothing -/
theorem lexL_fuel : ∀ (f g : Nat) (l : List UInt8) (line col : Nat) (acc : List Wd), l.length ≤ f → l.length ≤ g → lexL f l line col acc = lexL g l line col acc
  | 0, g, l, line, col, acc, hf, hg => by
    obtain rfl : l = [] := List.eq_nil_of_length_eq_zero (by omega)
    rw [lexL_end, lexL_end]
  | f + 1, g, l, line, col, acc, hf, hg => by
    by_cases h0 : l = []
    · subst h0; rw [lexL_end, lexL_end]
    · have hp := List.length_pos_iff.2 h0
      obtain ⟨g, rfl⟩ : ∃ g', g = g' + 1 := ⟨g - 1, by omega⟩
      by_cases h10 : (nx l).1 = 10
      · rw [lexL_feed f l _ _ _ h0 h10, lexL_feed g l _ _ _ h0 h10]
        have := drop_lt l 1 h0 (by omega)
        exact lexL_fuel f g _ _ _ _ (by omega) (by omega)
      · by_cases hb : (nx l).1 = 32 ∨ (nx l).1 = 9
        · rw [lexL_blank f l _ _ _ h0 hb, lexL_blank g l _ _ _ h0 hb]
          have := drop_lt l 1 h0 (by omega)
          exact lexL_fuel f g _ _ _ _ (by omega) (by omega)
        · by_cases hr : (nx l).1 = 47 ∧ l[1]? = some 47
          · rw [lexL_remark f l _ _ _ h0 hr.1 hr.2, lexL_remark g l _ _ _ h0 hr.1 hr.2]
            have := drop_lt l _ h0 (skipL_one l h0 (head_nx l h0 h10))
            exact lexL_fuel f g _ _ _ _ (by omega) (by omega)
          · have hbg : begins l := ⟨h0, h10, fun h => hb (.inl h), fun h => hb (.inr h), hr⟩
            rw [lexL_word f l _ _ _ hbg, lexL_word g l _ _ _ hbg]
            have := drop_lt l _ h0 (headW_bd l h0).1
            split
            · rfl
            · split
              · rfl
              · exact lexL_fuel f g _ _ _ _ (by omega) (by omega)
/-- a word some lines further down -/
def down (k : Nat) (x : Wd) : Wd := ⟨x.kind, x.text, x.line + k, x.col⟩
theorem lexL_down (k : Nat) : ∀ (f : Nat) (l : List UInt8) (line col : Nat) (acc : List Wd), lexL f l (line + k) col (acc.map (down k)) =
    ((lexL f l line col acc).1.map (down k), (if (lexL f l line col acc).2.2 = 0 then (0, 0) else ((lexL f l line col acc).2.1.1 + k, (lexL f l line col acc).2.1.2)), (lexL f l line col acc).2.2)
  | 0, l, line, col, acc => by simp [lexL]
  | f + 1, l, line, col, acc => by
    by_cases h0 : l = []
    · subst h0; rw [lexL_end, lexL_end]; simp
    · by_cases h10 : (nx l).1 = 10
      · rw [lexL_feed f l _ _ _ h0 h10, lexL_feed f l _ _ _ h0 h10, show line + k + 1 = line + 1 + k by omega]
        exact lexL_down k f _ _ _ _
      · by_cases hb : (nx l).1 = 32 ∨ (nx l).1 = 9
        · rw [lexL_blank f l _ _ _ h0 hb, lexL_blank f l _ _ _ h0 hb]
          exact lexL_down k f _ _ _ _
        · by_cases hr : (nx l).1 = 47 ∧ l[1]? = some 47
          · rw [lexL_remark f l _ _ _ h0 hr.1 hr.2, lexL_remark f l _ _ _ h0 hr.1 hr.2]
            exact lexL_down k f _ _ _ _
          · have hbg : begins l := ⟨h0, h10, fun h => hb (.inl h), fun h => hb (.inr h), hr⟩
            rw [lexL_word f l _ _ _ hbg, lexL_word f l _ _ _ hbg, List.length_map]
            by_cases c1 : rightL (headW l).1 (l.take (headW l).2.1) (nx l).1 = false
            · simp only [if_pos c1]; simp
            · simp only [if_neg c1]
              by_cases c2 : acc.length = 4000
              · simp only [if_pos c2]; simp
              · simp only [if_neg c2]
                have ih := lexL_down k f (l.drop (headW l).2.1) line (col + (headW l).2.2) (acc ++ [⟨(headW l).1, l.take (headW l).2.1, line, col⟩])
                rw [List.map_append] at ih
                exact ih
/-- the words told so far, and the place at hand: places are from 1 on, and rise -/
structure Rise (line col : Nat) (acc : List Wd) : Prop where
  here : 1 ≤ line ∧ 1 ≤ col
  pos : ∀ x ∈ acc, 1 ≤ x.line ∧ 1 ≤ x.col
  up : ∀ (i : Nat) (x y : Wd), acc[i]? = some x → acc[i + 1]? = some y → x.line < y.line ∨ (x.line = y.line ∧ x.col < y.col)
  last : ∀ x, acc.getLast? = some x → x.line < line ∨ (x.line = line ∧ x.col < col)
theorem Rise.nil (line col : Nat) (h : 1 ≤ line ∧ 1 ≤ col) : Rise line col [] := ⟨h, by simp, by simp, by simp⟩
theorem Rise.on {line col : Nat} {acc : List Wd} (h : Rise line col acc) (line' col' : Nat) (hc : 1 ≤ col') (hl : line < line' ∨ (line = line' ∧ col ≤ col')) : Rise line' col' acc := by
  refine ⟨⟨by have := h.here; omega, hc⟩, h.pos, h.up, fun x hx => ?_⟩
  have := h.last x hx
  omega
theorem Rise.word {line col : Nat} {acc : List Wd} (h : Rise line col acc) (k : Int) (t : List UInt8) (m : Nat) (hm : 1 ≤ m) : Rise line (col + m) (acc ++ [⟨k, t, line, col⟩]) := by
  refine ⟨⟨h.here.1, by omega⟩, ?_, ?_, ?_⟩
  · intro x hx
    rcases List.mem_append.1 hx with hx | hx
    · exact h.pos x hx
    · have : x = ⟨k, t, line, col⟩ := by simpa using hx
      subst this; exact h.here
  · intro i x y hx hy
    by_cases hi : i + 1 < acc.length
    · rw [List.getElem?_append_left (by omega)] at hx
      rw [List.getElem?_append_left hi] at hy
      exact h.up i x y hx hy
    · have hil : i + 1 = acc.length := by
        have := (List.getElem?_eq_some_iff.1 hy).1
        simp at this; omega
      rw [hil, List.getElem?_append_right (by omega), Nat.sub_self] at hy
      have : y = ⟨k, t, line, col⟩ := by simpa using hy.symm
      subst this
      rw [List.getElem?_append_left (by omega)] at hx
      refine h.last x ?_
      rw [List.getLast?_eq_getElem?, ← hx]
      congr 1; omega
  · intro x hx
    rw [List.getLast?_append] at hx
    have : x = ⟨k, t, line, col⟩ := by simpa using hx.symm
    subst this
    right; exact ⟨rfl, by show col < col + m; omega⟩
theorem runes_one (l : List UInt8) (h : l ≠ []) : 1 ≤ (headW l).2.2 := by
  obtain ⟨m, hm⟩ : ∃ m, l.length = m + 1 := ⟨l.length - 1, by have := List.length_pos_iff.2 h; omega⟩
  unfold headW
  split
  · rename_i hL
    rw [hm]; exact (runL_pos m l h (by unfold nameRune; rw [hL]; rfl)).2
  · split
    · rename_i hL hD
      rw [hm]; exact (runL_pos m l h (by unfold nameRune; rw [hD]; simp)).2
    · exact Nat.le_refl _
theorem lexL_rise : ∀ (f : Nat) (l : List UInt8) (line col : Nat) (acc : List Wd), Rise line col acc → ∃ line' col', Rise line' col' (lexL f l line col acc).1
  | 0, l, line, col, acc, h => ⟨line, col, h⟩
  | f + 1, l, line, col, acc, h => by
    have hh := h.here
    by_cases h0 : l = []
    · subst h0; rw [lexL_end]; exact ⟨line, col, h⟩
    · by_cases h10 : (nx l).1 = 10
      · rw [lexL_feed f l _ _ _ h0 h10]; exact lexL_rise f _ _ _ _ (h.on _ _ (by omega) (by omega))
      · by_cases hb : (nx l).1 = 32 ∨ (nx l).1 = 9
        · rw [lexL_blank f l _ _ _ h0 hb]; exact lexL_rise f _ _ _ _ (h.on _ _ (by omega) (by omega))
        · by_cases hr : (nx l).1 = 47 ∧ l[1]? = some 47
          · rw [lexL_remark f l _ _ _ h0 hr.1 hr.2]; exact lexL_rise f _ _ _ _ (h.on _ _ (by omega) (by omega))
          · rw [lexL_word f l _ _ _ ⟨h0, h10, fun h => hb (.inl h), fun h => hb (.inr h), hr⟩]
            split
            · exact ⟨1, 1, Rise.nil _ _ (by omega)⟩
            · split
              · exact ⟨1, 1, Rise.nil _ _ (by omega)⟩
              · exact lexL_rise f _ _ _ _ (h.word _ _ _ (runes_one l h0))
theorem lexL_count : ∀ (f : Nat) (l : List UInt8) (line col : Nat) (acc : List Wd), acc.length ≤ 4000 → (lexL f l line col acc).1.length ≤ 4000
  | 0, l, line, col, acc, h => h
  | f + 1, l, line, col, acc, h => by
    by_cases h0 : l = []
    · subst h0; rw [lexL_end]; exact h
    · by_cases h10 : (nx l).1 = 10
      · rw [lexL_feed f l _ _ _ h0 h10]; exact lexL_count f _ _ _ _ h
      · by_cases hb : (nx l).1 = 32 ∨ (nx l).1 = 9
        · rw [lexL_blank f l _ _ _ h0 hb]; exact lexL_count f _ _ _ _ h
        · by_cases hr : (nx l).1 = 47 ∧ l[1]? = some 47
          · rw [lexL_remark f l _ _ _ h0 hr.1 hr.2]; exact lexL_count f _ _ _ _ h
          · rw [lexL_word f l _ _ _ ⟨h0, h10, fun h => hb (.inl h), fun h => hb (.inr h), hr⟩]
            split
            · simp
            · split
              · simp
              · exact lexL_count f _ _ _ _ (by simp; omega)
/-- lines are at most as many as there are bytes, and one -/
theorem lexL_lines (M : Nat) : ∀ (f : Nat) (l : List UInt8) (line col : Nat) (acc : List Wd), (∀ x ∈ acc, x.line ≤ M) → line + l.length ≤ M → (∀ x ∈ (lexL f l line col acc).1, x.line ≤ M) ∧ (lexL f l line col acc).2.1.1 ≤ M
  | 0, l, line, col, acc, h, hl => ⟨h, Nat.zero_le _⟩
  | f + 1, l, line, col, acc, h, hl => by
    by_cases h0 : l = []
    · subst h0; rw [lexL_end]; exact ⟨h, Nat.zero_le _⟩
    · have hp := List.length_pos_iff.2 h0
      by_cases h10 : (nx l).1 = 10
      · rw [lexL_feed f l _ _ _ h0 h10]; exact lexL_lines M f _ _ _ _ h (by rw [List.length_drop]; omega)
      · by_cases hb : (nx l).1 = 32 ∨ (nx l).1 = 9
        · rw [lexL_blank f l _ _ _ h0 hb]; exact lexL_lines M f _ _ _ _ h (by rw [List.length_drop]; omega)
        · by_cases hr : (nx l).1 = 47 ∧ l[1]? = some 47
          · rw [lexL_remark f l _ _ _ h0 hr.1 hr.2]; exact lexL_lines M f _ _ _ _ h (by rw [List.length_drop]; omega)
          · rw [lexL_word f l _ _ _ ⟨h0, h10, fun h => hb (.inl h), fun h => hb (.inr h), hr⟩]
            split
            · exact ⟨by simp, by show line ≤ M; omega⟩
            · split
              · exact ⟨by simp, by show line ≤ M; omega⟩
              · refine lexL_lines M f _ _ _ _ ?_ (by rw [List.length_drop]; omega)
                intro x hx
                rcases List.mem_append.1 hx with hx | hx
                · exact h x hx
                · have : x = ⟨(headW l).1, l.take (headW l).2.1, line, col⟩ := by simpa using hx
                  subst this; show line ≤ M; omega
theorem words_lines (l : List UInt8) : (∀ x ∈ (wordsL l).1, x.line ≤ 20001) ∧ (wordsL l).2.1.1 ≤ 20001 := by
  unfold wordsL
  split
  · exact ⟨by simp, by show 1 ≤ 20001; omega⟩
  · exact lexL_lines 20001 _ _ _ _ _ (by simp) (by omega)
theorem lexL_texts (M : Nat) : ∀ (f : Nat) (l : List UInt8) (line col : Nat) (acc : List Wd), (∀ x ∈ acc, x.text.length ≤ M) → l.length ≤ M → ∀ x ∈ (lexL f l line col acc).1, x.text.length ≤ M
  | 0, l, line, col, acc, h, hl => h
  | f + 1, l, line, col, acc, h, hl => by
    by_cases h0 : l = []
    · subst h0; rw [lexL_end]; exact h
    · by_cases h10 : (nx l).1 = 10
      · rw [lexL_feed f l _ _ _ h0 h10]; exact lexL_texts M f _ _ _ _ h (by rw [List.length_drop]; omega)
      · by_cases hb : (nx l).1 = 32 ∨ (nx l).1 = 9
        · rw [lexL_blank f l _ _ _ h0 hb]; exact lexL_texts M f _ _ _ _ h (by rw [List.length_drop]; omega)
        · by_cases hr : (nx l).1 = 47 ∧ l[1]? = some 47
          · rw [lexL_remark f l _ _ _ h0 hr.1 hr.2]; exact lexL_texts M f _ _ _ _ h (by rw [List.length_drop]; omega)
          · rw [lexL_word f l _ _ _ ⟨h0, h10, fun h => hb (.inl h), fun h => hb (.inr h), hr⟩]
            split
            · simp
            · split
              · simp
              · refine lexL_texts M f _ _ _ _ ?_ (by rw [List.length_drop]; omega)
                intro x hx
                rcases List.mem_append.1 hx with hx | hx
                · exact h x hx
                · have : x = ⟨(headW l).1, l.take (headW l).2.1, line, col⟩ := by simpa using hx
                  subst this; show (l.take _).length ≤ M; rw [List.length_take]; omega
theorem words_texts (l : List UInt8) : ∀ x ∈ (wordsL l).1, x.text.length ≤ 20000 := by
  unfold wordsL
  split
  · simp
  · exact lexL_texts 20000 _ _ _ _ _ (by simp) (by omega)
/-- places rise along a text's words -/
theorem words_rise (l : List UInt8) : ∃ line col, Rise line col (wordsL l).1 := by
  unfold wordsL
  split
  · exact ⟨1, 1, Rise.nil _ _ (by omega)⟩
  · exact lexL_rise _ _ _ _ _ (Rise.nil _ _ (by omega))
/-- behind a line feed -/
theorem words_feed (l : List UInt8) (h : l.length ≤ 10000) : wordsL (10 :: l) = ((wordsL l).1.map (down 1), (if (wordsL l).2.2 = 0 then (0, 0) else ((wordsL l).2.1.1 + 1, (wordsL l).2.1.2)), (wordsL l).2.2) := by
  unfold wordsL
  rw [if_neg (by simp; omega), if_neg (by omega), List.length_cons, lexL_feed _ _ _ _ _ (by simp) (by rw [nx_ascii _ _ (by decide)]; rfl)]
  exact lexL_down 1 l.length l 1 1 []
end Go.Proofs.YtngmimbpakmkiaaGreatDoor
namespace Go.Proofs.YtngmimbpakmkiaaGreatDoor
set_option linter.unusedVariables false

theorem get_app (s y : List UInt8) (k : Nat) (h : k < s.length + 1) : (ByteArray.mk (s ++ 10 :: y).toArray).get! (0 + k) = (ByteArray.mk (s ++ [10]).toArray).get! (0 + k) := by
  have e1 : (s ++ 10 :: y)[k]? = (s ++ [10])[k]? := by
    by_cases hk : k < s.length
    · rw [List.getElem?_append_left hk, List.getElem?_append_left hk]
    · have : k = s.length := by omega
      subst this
      rw [List.getElem?_append_right (by omega), List.getElem?_append_right (by omega)]; simp
  rw [Nat.zero_add]
  show (s ++ 10 :: y).toArray[k]! = (s ++ [10]).toArray[k]!
  rw [getElem!_def, getElem!_def]
  simp only [List.getElem?_toArray, e1]
theorem get_feed (s y : List UInt8) : (ByteArray.mk (s ++ 10 :: y).toArray).get! (0 + s.length) = 10 := by
  rw [Nat.zero_add]
  show (s ++ 10 :: y).toArray[s.length]! = 10
  rw [getElem!_def]
  simp
theorem size_app (s y : List UInt8) : (ByteArray.mk (s ++ 10 :: y).toArray).size = s.length + 1 + y.length := by
  show (s ++ 10 :: y).toArray.size = _
  simp; omega
/-- whether the k-th byte goes on a rune -/
def contA (A : ByteArray) (k : Nat) : Bool := decide (0 + k < A.size) && ((A.get! (0 + k)).toNat / 64 == 2)
theorem cont_end (s y : List UInt8) : contA ⟨(s ++ 10 :: y).toArray⟩ s.length = false := by
  unfold contA; rw [get_feed]; simp
theorem cont_app (s y : List UInt8) (k : Nat) (h : k < s.length + 1) : contA ⟨(s ++ 10 :: y).toArray⟩ k = contA ⟨(s ++ [10]).toArray⟩ k := by
  unfold contA
  rw [get_app s y k h, size_app, size_app s []]
  rw [decide_eq_true (by omega), decide_eq_true (by simp; omega)]

def dec4 (b0 b1 b2 b3 : Nat) (c1 c2 c3 : Bool) : Nat × Nat :=
  if b0 < 128 then (b0, 1)
  else if (b0 / 32 == 6 && c1) = true then (if b0 % 32 * 64 + b1 % 64 ≥ 128 then (b0 % 32 * 64 + b1 % 64, 2) else (65533, 1))
  else if (b0 / 16 == 14 && c1 && c2) = true then (if (decide (b0 % 16 * 4096 + b1 % 64 * 64 + b2 % 64 ≥ 2048) && Utf8.valid ((b0 % 16 * 4096 + b1 % 64 * 64 + b2 % 64 : Nat) : Int)) = true then (b0 % 16 * 4096 + b1 % 64 * 64 + b2 % 64, 3) else (65533, 1))
  else if (b0 / 8 == 30 && c1 && c2 && c3) = true then (if (decide (b0 % 8 * 262144 + b1 % 64 * 4096 + b2 % 64 * 64 + b3 % 64 ≥ 65536) && Utf8.valid ((b0 % 8 * 262144 + b1 % 64 * 4096 + b2 % 64 * 64 + b3 % 64 : Nat) : Int)) = true then (b0 % 8 * 262144 + b1 % 64 * 4096 + b2 % 64 * 64 + b3 % 64, 4) else (65533, 1))
  else (65533, 1)
theorem decode_dec4 (A : ByteArray) : Utf8.decode A 0 = dec4 (A.get! (0 + 0)).toNat (A.get! (0 + 1)).toNat (A.get! (0 + 2)).toNat (A.get! (0 + 3)).toNat (contA A 1) (contA A 2) (contA A 3) := rfl
theorem dec4_c1 (b0 b1 b2 b3 : Nat) (c2 c3 : Bool) : dec4 b0 b1 b2 b3 false c2 c3 = dec4 b0 0 0 0 false false false := by simp [dec4]
theorem dec4_c2 (b0 b1 b2 b3 : Nat) (c1 c3 : Bool) : dec4 b0 b1 b2 b3 c1 false c3 = dec4 b0 b1 0 0 c1 false false := by simp [dec4]
theorem dec4_c3 (b0 b1 b2 b3 : Nat) (c1 c2 : Bool) : dec4 b0 b1 b2 b3 c1 c2 false = dec4 b0 b1 b2 0 c1 c2 false := by simp [dec4]
theorem dec4_w1 (b0 b1 b2 b3 : Nat) (c2 c3 : Bool) : (dec4 b0 b1 b2 b3 false c2 c3).2 ≤ 1 := by
  unfold dec4; split <;> simp
theorem dec4_w2 (b0 b1 b2 b3 : Nat) (c1 c3 : Bool) : (dec4 b0 b1 b2 b3 c1 false c3).2 ≤ 2 := by
  unfold dec4; repeat' split
  all_goals simp_all
theorem dec4_w3 (b0 b1 b2 b3 : Nat) (c1 c2 : Bool) : (dec4 b0 b1 b2 b3 c1 c2 false).2 ≤ 3 := by
  unfold dec4; repeat' split
  all_goals simp_all
theorem dec4_w4 (b0 b1 b2 b3 : Nat) (c1 c2 c3 : Bool) : (dec4 b0 b1 b2 b3 c1 c2 c3).2 ≤ 4 := by
  unfold dec4; repeat' split
  all_goals simp
/-- the rune at the head, ahead of a line feed -/
theorem decode_local (s y : List UInt8) (h : s ≠ []) : Lib.decodeL (s ++ 10 :: y) = Lib.decodeL (s ++ [10]) ∧ (Lib.decodeL (s ++ 10 :: y)).2 ≤ s.length := by
  have hp := List.length_pos_iff.2 h
  unfold Lib.decodeL
  rw [decode_dec4, decode_dec4]
  have g := get_app s y
  have c := cont_app s y
  have ce := cont_end s y
  have ce0 := cont_end s []
  have hs : s.length = 1 ∨ s.length = 2 ∨ s.length = 3 ∨ 4 ≤ s.length := by omega
  rcases hs with hs | hs | hs | hs
  · rw [hs] at ce ce0
    rw [ce, ce0, g 0 (by omega), hs]
    exact ⟨(dec4_c1 _ _ _ _ _ _).trans (dec4_c1 _ _ _ _ _ _).symm, dec4_w1 _ _ _ _ _ _⟩
  · rw [hs] at ce ce0
    rw [ce, ce0, g 0 (by omega), g 1 (by omega), c 1 (by omega), hs]
    exact ⟨(dec4_c2 _ _ _ _ _ _).trans (dec4_c2 _ _ _ _ _ _).symm, dec4_w2 _ _ _ _ _ _⟩
  · rw [hs] at ce ce0
    rw [ce, ce0, g 0 (by omega), g 1 (by omega), g 2 (by omega), c 1 (by omega), c 2 (by omega), hs]
    exact ⟨(dec4_c3 _ _ _ _ _ _).trans (dec4_c3 _ _ _ _ _ _).symm, dec4_w3 _ _ _ _ _ _⟩
  · rw [g 0 (by omega), g 1 (by omega), g 2 (by omega), g 3 (by omega), c 1 (by omega), c 2 (by omega), c 3 (by omega)]
    exact ⟨rfl, Nat.le_trans (dec4_w4 _ _ _ _ _ _ _) hs⟩
theorem nx_local (s y : List UInt8) (h : s ≠ []) : nx (s ++ 10 :: y) = nx (s ++ [10]) ∧ (nx (s ++ 10 :: y)).2 ≤ s.length := by
  obtain ⟨h1, h2⟩ := decode_local s y h
  have e : nx (s ++ 10 :: y) = nx (s ++ [10]) := by
    unfold nx; rw [if_neg (c := s ++ 10 :: y = []) (by simp), if_neg (c := s ++ [10] = []) (by simp), h1]
  refine ⟨e, ?_⟩
  unfold nx
  rw [if_neg (c := s ++ 10 :: y = []) (by simp)]
  split <;> exact h2
theorem drop_local (s y : List UInt8) (n : Nat) (h : n ≤ s.length) : (s ++ 10 :: y).drop n = s.drop n ++ 10 :: y := by
  rw [List.drop_append_of_le_length h]
theorem nx_feed (y : List UInt8) : nx (10 :: y) = (10, 1) := nx_ascii 10 y (by decide)
theorem runL_local : ∀ (f : Nat) (s y : List UInt8), runL f (s ++ 10 :: y) = runL f (s ++ [10]) ∧ (runL f (s ++ 10 :: y)).1 ≤ s.length
  | 0, s, y => by simp [runL]
  | f + 1, s, y => by
    by_cases h : s = []
    · subst h
      have h1 : ∀ z : List UInt8, runL (f + 1) (10 :: z) = (0, 0) := fun z => by
        rw [runL, if_neg]
        rintro ⟨_, hh⟩
        rw [nx_feed] at hh
        exact absurd hh (by decide)
      simp only [List.nil_append]
      rw [h1, h1]; simp
    · obtain ⟨e1, e2⟩ := nx_local s y h
      have hd1 := drop_local s y _ e2
      have hd0 := drop_local s [] (nx (s ++ 10 :: y)).2 e2
      rw [runL, runL, ← e1]
      by_cases hn : nameRune (nx (s ++ 10 :: y)).1 = true
      · rw [if_pos ⟨by simp, hn⟩, if_pos ⟨by simp, hn⟩, hd1, hd0]
        obtain ⟨i1, i2⟩ := runL_local f (s.drop (nx (s ++ 10 :: y)).2) y
        rw [← i1]
        refine ⟨rfl, ?_⟩
        rw [List.length_drop] at i2
        simp only
        omega
      · rw [if_neg (fun h => hn h.2), if_neg (fun h => hn h.2)]; simp
theorem skipL_local : ∀ (f : Nat) (s y : List UInt8), skipL f (s ++ 10 :: y) = skipL f (s ++ [10]) ∧ (skipL f (s ++ 10 :: y)).1 ≤ s.length
  | 0, s, y => by simp [skipL]
  | f + 1, s, y => by
    by_cases h : s = []
    · subst h
      simp only [List.nil_append]
      rw [skipL_stop _ _ (.inr rfl), skipL_stop _ _ (.inr rfl)]; simp
    · obtain ⟨e1, e2⟩ := nx_local s y h
      have hd1 := drop_local s y _ e2
      have hd0 := drop_local s [] (nx (s ++ 10 :: y)).2 e2
      have hh : ∀ z : List UInt8, (s ++ 10 :: z).head? = s.head? := fun z => by
        cases s with
        | nil => exact absurd rfl h
        | cons a t => rfl
      rw [skipL, skipL, ← e1, hh, hh]
      by_cases hn : s.head? = some 10
      · rw [if_neg (fun h => h.2 hn), if_neg (fun h => h.2 hn)]; simp
      · rw [if_pos ⟨by simp, hn⟩, if_pos ⟨by simp, hn⟩, hd1, hd0]
        obtain ⟨i1, i2⟩ := skipL_local f (s.drop (nx (s ++ 10 :: y)).2) y
        rw [← i1]
        refine ⟨rfl, ?_⟩
        rw [List.length_drop] at i2
        simp only
        omega
end Go.Proofs.YtngmimbpakmkiaaGreatDoor
namespace Go.Proofs.YtngmimbpakmkiaaGreatDoor
set_option linter.unusedVariables false

theorem runL_fuel : ∀ (f g : Nat) (l : List UInt8), l.length ≤ f → l.length ≤ g → runL f l = runL g l
  | 0, g, l, hf, hg => by
    obtain rfl : l = [] := List.eq_nil_of_length_eq_zero (by omega)
    cases g with
    | zero => rfl
    | succ g => simp [runL]
  | f + 1, 0, l, hf, hg => by
    obtain rfl : l = [] := List.eq_nil_of_length_eq_zero (by omega)
    simp [runL]
  | f + 1, g + 1, l, hf, hg => by
    rw [runL, runL]
    by_cases h : l ≠ [] ∧ nameRune (nx l).1 = true
    · have := drop_lt l _ h.1 (nx_width l h.1).1
      rw [if_pos h, if_pos h, runL_fuel f g (l.drop (nx l).2) (by omega) (by omega)]
    · rw [if_neg h, if_neg h]
theorem skipL_fuel : ∀ (f g : Nat) (l : List UInt8), l.length ≤ f → l.length ≤ g → skipL f l = skipL g l
  | 0, g, l, hf, hg => by
    obtain rfl : l = [] := List.eq_nil_of_length_eq_zero (by omega)
    cases g with
    | zero => rfl
    | succ g => simp [skipL]
  | f + 1, 0, l, hf, hg => by
    obtain rfl : l = [] := List.eq_nil_of_length_eq_zero (by omega)
    simp [skipL]
  | f + 1, g + 1, l, hf, hg => by
    rw [skipL, skipL]
    by_cases h : l ≠ [] ∧ l.head? ≠ some 10
    · have := drop_lt l _ h.1 (nx_width l h.1).1
      rw [if_pos h, if_pos h, skipL_fuel f g (l.drop (nx l).2) (by omega) (by omega)]
    · rw [if_neg h, if_neg h]
theorem run_whole (s y : List UInt8) : runL (s ++ 10 :: y).length (s ++ 10 :: y) = runL (s ++ [10]).length (s ++ [10]) ∧ (runL (s ++ 10 :: y).length (s ++ 10 :: y)).1 ≤ s.length := by
  obtain ⟨h1, h2⟩ := runL_local (s ++ 10 :: y).length s y
  refine ⟨?_, h2⟩
  rw [h1]
  exact runL_fuel _ _ _ (by simp) (Nat.le_refl _)
theorem skip_whole (s y : List UInt8) : skipL (s ++ 10 :: y).length (s ++ 10 :: y) = skipL (s ++ [10]).length (s ++ [10]) ∧ (skipL (s ++ 10 :: y).length (s ++ 10 :: y)).1 ≤ s.length := by
  obtain ⟨h1, h2⟩ := skipL_local (s ++ 10 :: y).length s y
  refine ⟨?_, h2⟩
  rw [h1]
  exact skipL_fuel _ _ _ (by simp) (Nat.le_refl _)
theorem head_local (s y : List UInt8) (h : s ≠ []) : headW (s ++ 10 :: y) = headW (s ++ [10]) ∧ (headW (s ++ 10 :: y)).2.1 ≤ s.length := by
  obtain ⟨h1, h2⟩ := nx_local s y h
  obtain ⟨r1, r2⟩ := run_whole s y
  have e : headW (s ++ 10 :: y) = headW (s ++ [10]) := by unfold headW; rw [h1, r1]
  refine ⟨e, ?_⟩
  unfold headW
  split
  · exact r2
  · split
    · exact r2
    · exact h2
theorem at_local (s y : List UInt8) (h : s ≠ []) : (s ++ 10 :: y)[1]? = (s ++ [10])[1]? := by
  have hp := List.length_pos_iff.2 h
  by_cases h1 : 1 < s.length
  · rw [List.getElem?_append_left h1, List.getElem?_append_left h1]
  · rw [List.getElem?_append_right (by omega), List.getElem?_append_right (by omega), show s.length = 1 by omega]; rfl
theorem take_local (s y : List UInt8) (n : Nat) (h : n ≤ s.length) : (s ++ 10 :: y).take n = s.take n := by
  rw [List.take_append_of_le_length h]
/-- a text up to a line feed: it has an error, or it comes to what stands behind, with these words -/
theorem lex_prefix : ∀ (n : Nat) (s : List UInt8), s.length ≤ n → ∀ (line col : Nat) (acc : List Wd), acc.length ≤ 4000 →
    (∃ (p : Nat × Nat) (c : Int), c ≠ 0 ∧ ∀ (y : List UInt8) (f : Nat), (s ++ 10 :: y).length ≤ f → lexL f (s ++ 10 :: y) line col acc = ([], p, c)) ∨
    (∃ (line' : Nat) (acc' : List Wd), acc'.length ≤ 4000 ∧ ∀ (y : List UInt8) (f : Nat), (s ++ 10 :: y).length ≤ f → lexL f (s ++ 10 :: y) line col acc = lexL y.length y line' 1 acc')
  | n, [], hn, line, col, acc, hac => by
    refine .inr ⟨line + 1, acc, hac, fun y f hf => ?_⟩
    simp only [List.nil_append, List.length_cons] at hf ⊢
    obtain ⟨f, rfl⟩ : ∃ f', f = f' + 1 := ⟨f - 1, by omega⟩
    rw [lexL_feed f _ _ _ _ (by simp) (by rw [nx_feed])]
    exact lexL_fuel _ _ _ _ _ _ (by simpa using hf) (Nat.le_refl _)
  | 0, a :: s, hn, line, col, acc, hac => by simp at hn
  | n + 1, a :: s, hn, line, col, acc, hac => by
    have hne : a :: s ≠ [] := by simp
    have hnx := fun y => nx_local (a :: s) y hne
    obtain ⟨x, hx⟩ : ∃ x, nx (a :: s ++ [10]) = x := ⟨_, rfl⟩
    have hx1 : ∀ y, nx (a :: s ++ 10 :: y) = x := fun y => (hnx y).1.trans hx
    have hx2 : x.2 ≤ (a :: s).length := by have := (hnx []).2; rw [hx1] at this; exact this
    have hstep : ∀ (k : Nat), 1 ≤ k → k ≤ (a :: s).length → ∀ (line' col' : Nat) (acc' : List Wd), acc'.length ≤ 4000 →
        (∀ (y : List UInt8) (f : Nat), lexL (f + 1) (a :: s ++ 10 :: y) line col acc = lexL f ((a :: s ++ 10 :: y).drop k) line' col' acc') →
        (∃ (p : Nat × Nat) (c : Int), c ≠ 0 ∧ ∀ (y : List UInt8) (f : Nat), (a :: s ++ 10 :: y).length ≤ f → lexL f (a :: s ++ 10 :: y) line col acc = ([], p, c)) ∨
        (∃ (line' : Nat) (acc' : List Wd), acc'.length ≤ 4000 ∧ ∀ (y : List UInt8) (f : Nat), (a :: s ++ 10 :: y).length ≤ f → lexL f (a :: s ++ 10 :: y) line col acc = lexL y.length y line' 1 acc') := by
      intro k hk1 hk2 line' col' acc' hac' hl
      have hd : ∀ y, (a :: s ++ 10 :: y).drop k = (a :: s).drop k ++ 10 :: y := fun y => drop_local (a :: s) y k hk2
      have hlen : ((a :: s).drop k).length ≤ n := by rw [List.length_drop]; omega
      have hfu : ∀ y f, (a :: s ++ 10 :: y).length ≤ f + 1 → ((a :: s).drop k ++ 10 :: y).length ≤ f := fun y f hf => by
        simp only [List.length_append, List.length_drop, List.length_cons] at hf ⊢; omega
      rcases lex_prefix n _ hlen line' col' acc' hac' with ⟨p, c, hc, ih⟩ | ⟨l2, a2, ha2, ih⟩
      · refine .inl ⟨p, c, hc, fun y f hf => ?_⟩
        obtain ⟨f, rfl⟩ : ∃ f', f = f' + 1 := ⟨f - 1, by simp at hf; omega⟩
        rw [hl y f, hd y]
        exact ih y f (hfu y f hf)
      · refine .inr ⟨l2, a2, ha2, fun y f hf => ?_⟩
        obtain ⟨f, rfl⟩ : ∃ f', f = f' + 1 := ⟨f - 1, by simp at hf; omega⟩
        rw [hl y f, hd y]
        exact ih y f (hfu y f hf)
    by_cases h10 : x.1 = 10
    · exact hstep 1 (by omega) (by simp) (line + 1) 1 acc hac fun y f => lexL_feed f _ _ _ _ (by simp) (by rw [hx1]; exact h10)
    · by_cases hb : x.1 = 32 ∨ x.1 = 9
      · exact hstep 1 (by omega) (by simp) line (col + 1) acc hac fun y f => lexL_blank f _ _ _ _ (by simp) (by rw [hx1]; exact hb)
      · by_cases hr : x.1 = 47 ∧ (a :: s ++ [10])[1]? = some 47
        · have hsk := fun y => skip_whole (a :: s) y
          have h1 : 1 ≤ (skipL (a :: s ++ [10]).length (a :: s ++ [10])).1 := skipL_one _ (by simp) (head_nx _ (by simp) (by rw [hx]; exact h10))
          have h2 : (skipL (a :: s ++ [10]).length (a :: s ++ [10])).1 ≤ (a :: s).length := by have := (hsk []).2; exact this
          refine hstep _ h1 h2 line (col + (skipL (a :: s ++ [10]).length (a :: s ++ [10])).2) acc hac fun y f => ?_
          rw [lexL_remark f _ _ _ _ (by simp) (by rw [hx1]; exact hr.1) (by rw [at_local _ y hne]; exact hr.2), (hsk y).1]
        · have hbg : ∀ y, begins (a :: s ++ 10 :: y) := fun y => ⟨by simp, by rw [hx1]; exact h10, by rw [hx1]; exact fun h => hb (.inl h), by rw [hx1]; exact fun h => hb (.inr h), by rw [hx1, at_local _ y hne]; exact hr⟩
          have hhw := fun y => head_local (a :: s) y hne
          obtain ⟨H, hH⟩ : ∃ H, headW (a :: s ++ [10]) = H := ⟨_, rfl⟩
          have hH1 : ∀ y, headW (a :: s ++ 10 :: y) = H := fun y => (hhw y).1.trans hH
          have hH2 : H.2.1 ≤ (a :: s).length := by have := (hhw []).2; rw [hH1] at this; exact this
          have hH0 : 1 ≤ H.2.1 := by have := (headW_bd (a :: s ++ [10]) (by simp)).1; rw [hH] at this; exact this
          have hw : ∀ (y : List UInt8) (f : Nat), lexL (f + 1) (a :: s ++ 10 :: y) line col acc = if rightL H.1 ((a :: s).take H.2.1) x.1 = false then ([], (line, col), 6) else if acc.length = 4000 then ([], (line, col), 4) else lexL f ((a :: s ++ 10 :: y).drop H.2.1) line (col + H.2.2) (acc ++ [⟨H.1, (a :: s).take H.2.1, line, col⟩]) := fun y f => by
            rw [lexL_word f _ _ _ _ (hbg y), hH1, hx1, take_local _ y _ hH2]
          by_cases c1 : rightL H.1 ((a :: s).take H.2.1) x.1 = false
          · refine .inl ⟨(line, col), 6, by decide, fun y f hf => ?_⟩
            obtain ⟨f, rfl⟩ : ∃ f', f = f' + 1 := ⟨f - 1, by simp at hf; omega⟩
            rw [hw, if_pos c1]
          · by_cases c2 : acc.length = 4000
            · refine .inl ⟨(line, col), 4, by decide, fun y f hf => ?_⟩
              obtain ⟨f, rfl⟩ : ∃ f', f = f' + 1 := ⟨f - 1, by simp at hf; omega⟩
              rw [hw, if_neg c1, if_pos c2]
            · refine hstep _ hH0 hH2 line (col + H.2.2) (acc ++ [⟨H.1, (a :: s).take H.2.1, line, col⟩]) (by simp; omega) fun y f => ?_
              rw [hw, if_neg c1, if_neg c2]
/-- the kinds and texts of words -/
def kt (l : List Wd) : List (Int × List UInt8) := l.map fun x => (x.kind, x.text)
theorem kt_len (l : List Wd) : (kt l).length = l.length := by simp [kt]
/-- places say nothing -/
theorem lexL_kt : ∀ (f : Nat) (l : List UInt8) (line col : Nat) (acc : List Wd) (line2 col2 : Nat) (acc2 : List Wd), kt acc = kt acc2 →
    kt (lexL f l line col acc).1 = kt (lexL f l line2 col2 acc2).1 ∧ (lexL f l line col acc).2.2 = (lexL f l line2 col2 acc2).2.2
  | 0, l, line, col, acc, line2, col2, acc2, h => ⟨h, rfl⟩
  | f + 1, l, line, col, acc, line2, col2, acc2, h => by
    have hlen : acc.length = acc2.length := by rw [← kt_len, ← kt_len, h]
    by_cases h0 : l = []
    · subst h0; rw [lexL_end, lexL_end]; exact ⟨h, rfl⟩
    · by_cases h10 : (nx l).1 = 10
      · rw [lexL_feed f l _ _ _ h0 h10, lexL_feed f l _ _ _ h0 h10]; exact lexL_kt f _ _ _ _ _ _ _ h
      · by_cases hb : (nx l).1 = 32 ∨ (nx l).1 = 9
        · rw [lexL_blank f l _ _ _ h0 hb, lexL_blank f l _ _ _ h0 hb]; exact lexL_kt f _ _ _ _ _ _ _ h
        · by_cases hr : (nx l).1 = 47 ∧ l[1]? = some 47
          · rw [lexL_remark f l _ _ _ h0 hr.1 hr.2, lexL_remark f l _ _ _ h0 hr.1 hr.2]; exact lexL_kt f _ _ _ _ _ _ _ h
          · have hbg : begins l := ⟨h0, h10, fun h => hb (.inl h), fun h => hb (.inr h), hr⟩
            rw [lexL_word f l _ _ _ hbg, lexL_word f l _ _ _ hbg, ← hlen]
            by_cases c1 : rightL (headW l).1 (l.take (headW l).2.1) (nx l).1 = false
            · simp only [if_pos c1]; exact ⟨trivial, trivial⟩
            · simp only [if_neg c1]
              by_cases c2 : acc.length = 4000
              · simp only [if_pos c2]; exact ⟨trivial, trivial⟩
              · simp only [if_neg c2]
                exact lexL_kt f _ _ _ _ _ _ _ (by unfold kt at h ⊢; rw [List.map_append, List.map_append, h]; rfl)
theorem skip_all : ∀ (n : Nat) (r y : List UInt8), r.length ≤ n → (∀ b ∈ r, b ≠ 10) → ∀ f, r.length ≤ f → (skipL f (r ++ 10 :: y)).1 = r.length
  | n, [], y, hn, h, f, hf => by
    simp only [List.nil_append]
    rw [skipL_stop _ _ (.inr rfl)]; rfl
  | 0, a :: r, y, hn, h, f, hf => by simp at hn
  | n + 1, a :: r, y, hn, h, f, hf => by
    obtain ⟨f, rfl⟩ : ∃ f', f = f' + 1 := ⟨f - 1, by simp at hf; omega⟩
    obtain ⟨_, h2⟩ := nx_local (a :: r) y (by simp)
    have hw := (nx_width (a :: r ++ 10 :: y) (by simp)).1
    rw [skipL_step f _ (by simp) (by have := h a List.mem_cons_self; simpa using this), drop_local _ y _ h2]
    simp only
    rw [skip_all n _ y (by rw [List.length_drop]; omega) (fun b hb => h b (List.mem_of_mem_drop hb)) f (by rw [List.length_drop]; omega), List.length_drop]
    omega
/-- a remark in a line of its own says nothing -/
theorem words_remark (s r b : List UInt8) (hs : s.length ≤ 5000) (hr : r.length ≤ 5000) (hb : b.length ≤ 5000) (h10 : ∀ x ∈ r, x ≠ 10) :
    (wordsL (s ++ 10 :: b)).2.2 = (wordsL (s ++ 10 :: 47 :: 47 :: (r ++ 10 :: b))).2.2 ∧ kt (wordsL (s ++ 10 :: b)).1 = kt (wordsL (s ++ 10 :: 47 :: 47 :: (r ++ 10 :: b))).1 := by
  unfold wordsL
  rw [if_neg (by simp; omega), if_neg (by simp; omega)]
  rcases lex_prefix s.length s (Nat.le_refl _) 1 1 [] (by simp) with ⟨p, c, hc, ih⟩ | ⟨l2, a2, ha2, ih⟩
  · rw [ih _ _ (Nat.le_refl _), ih _ _ (Nat.le_refl _)]; exact ⟨rfl, rfl⟩
  · rw [ih _ _ (Nat.le_refl _), ih _ _ (Nat.le_refl _)]
    have hsk := skip_all (47 :: 47 :: r).length (47 :: 47 :: r) b (Nat.le_refl _) (by
      intro x hx
      rcases List.mem_cons.1 hx with rfl | hx
      · decide
      · rcases List.mem_cons.1 hx with rfl | hx
        · decide
        · exact h10 x hx) (47 :: 47 :: (r ++ 10 :: b)).length (by simp)
    have e : lexL (47 :: 47 :: (r ++ 10 :: b)).length (47 :: 47 :: (r ++ 10 :: b)) l2 1 a2 = lexL b.length b (l2 + 1) 1 a2 := by
      have hm : (47 :: 47 :: (r ++ 10 :: b) : List UInt8).length = ((47 :: (r ++ 10 :: b) : List UInt8).length) + 1 := rfl
      rw [hm, lexL_remark _ _ _ _ _ (by simp) (by rw [nx_ascii _ _ (by decide)]; rfl) rfl]
      have hsk' : (skipL (47 :: 47 :: (r ++ 10 :: b)).length (47 :: 47 :: (r ++ 10 :: b))).1 = (47 :: 47 :: r).length := hsk
      rw [hsk']
      have hd : (47 :: 47 :: (r ++ 10 :: b) : List UInt8).drop (47 :: 47 :: r).length = 10 :: b := by
        show ((47 :: 47 :: r) ++ 10 :: b).drop (47 :: 47 :: r).length = _
        rw [List.drop_left]
      rw [hd]
      have hf2 : (47 :: (r ++ 10 :: b) : List UInt8).length = (r ++ b).length + 1 + 1 := by simp; omega
      rw [hf2, lexL_feed _ _ _ _ _ (by simp) (by rw [nx_feed])]
      exact lexL_fuel _ _ _ _ _ _ (by show b.length ≤ (r ++ b).length + 1; rw [List.length_append]; omega) (Nat.le_refl _)
    rw [e]
    have := lexL_kt b.length b l2 1 a2 (l2 + 1) 1 a2 rfl
    exact ⟨this.2, this.1⟩
end Go.Proofs.YtngmimbpakmkiaaGreatDoor
namespace Go.Proofs.YtngmimbpakmkiaaGreatDoor
set_option linter.unusedVariables false

/-! what is read as a small rune is its bytes -/
theorem get_cons (l : List UInt8) (k : Nat) (x : UInt8) (h : l[k]? = some x) : (ByteArray.mk l.toArray).get! (0 + k) = x := by
  rw [Nat.zero_add]
  show l.toArray[k]! = x
  rw [getElem!_def]
  simp [h]
theorem dec_enc (l : List UInt8) (h : l ≠ []) (hc : (Lib.decodeL l).1 ≤ 2047) : l = Lib.encodeRune ((Lib.decodeL l).1 : Int) ++ l.drop (Lib.decodeL l).2 := by
  cases l with
  | nil => exact absurd rfl h
  | cons b0 t =>
    have g0 := get_cons (b0 :: t) 0 b0 rfl
    have hb0 := b0.toNat_lt
    by_cases h128 : b0.toNat < 128
    · rw [Lib.decodeL_ascii b0 t h128, enc_small _ (by omega) (by omega)]
      simp
    · unfold Lib.decodeL at hc ⊢
      rw [decode_dec4, g0] at hc ⊢
      unfold dec4 at hc ⊢
      rw [if_neg h128] at hc ⊢
      by_cases c6 : (b0.toNat / 32 == 6 && contA ⟨(b0 :: t).toArray⟩ 1) = true
      · rw [if_pos c6] at hc ⊢
        simp only [Bool.and_eq_true, beq_iff_eq] at c6
        obtain ⟨c6a, c6b⟩ := c6
        unfold contA at c6b
        simp only [Bool.and_eq_true, decide_eq_true_iff, beq_iff_eq] at c6b
        obtain ⟨hsz, hb1⟩ := c6b
        have hsz' : 1 < (b0 :: t).length := by
          have : (ByteArray.mk (b0 :: t).toArray).size = (b0 :: t).length := by show (b0 :: t).toArray.size = _; simp
          omega
        cases t with
        | nil => simp at hsz'
        | cons b1 t =>
          have g1 := get_cons (b0 :: b1 :: t) 1 b1 rfl
          rw [g1] at hb1 hc ⊢
          have hb1' := b1.toNat_lt
          by_cases c128 : b0.toNat % 32 * 64 + b1.toNat % 64 ≥ 128
          · rw [if_pos c128]
            simp only
            rw [enc_two _ (by omega) (by omega)]
            have e0 : (192 + ((b0.toNat % 32 * 64 + b1.toNat % 64 : Nat) : Int) / 64).toNat = b0.toNat := by omega
            have e1 : (128 + ((b0.toNat % 32 * 64 + b1.toNat % 64 : Nat) : Int) % 64).toNat = b1.toNat := by omega
            rw [e0, e1]
            simp
          · rw [if_neg c128] at hc
            simp at hc
      · rw [if_neg c6] at hc
        exfalso
        revert hc
        repeat' split
        all_goals
          simp_all
        all_goals omega
theorem rns_bytes (s : ByteArray) (hL : s.data.toList.length = s.size) : ∀ (b pos : Nat), s.size ≤ pos + b → (∀ r ∈ rns s b pos, r ≤ 2047) → s.data.toList.drop pos = encL (rns s b pos)
  | 0, pos, hb, _ => by
    rw [List.drop_eq_nil_of_le (by omega)]; rfl
  | b + 1, pos, hb, h => by
    by_cases hp : pos < s.size
    · rw [rns_step s b pos hp] at h ⊢
      have hne : s.data.toList.drop pos ≠ [] := by
        intro e; have := congrArg List.length e; rw [List.length_drop, List.length_nil] at this; omega
      have hd := Lib.decodeL_drop s pos
      have h0 := h _ List.mem_cons_self
      have h1 := dec_enc _ hne (by rw [hd]; omega)
      rw [hd, List.drop_drop] at h1
      rw [encL_cons, ← rns_bytes s hL b (pos + (Utf8.decode s pos).2) (by have := width_pos s pos hp; omega) (fun r hr => h r (List.mem_cons_of_mem _ hr))]
      exact h1
    · rw [rns_end s _ pos hp, List.drop_eq_nil_of_le (by omega)]; rfl
theorem name_bytes (t : List UInt8) (h : nameOf (runes ⟨t.toArray⟩) = true) : t = encL (runes ⟨t.toArray⟩) := by
  have hs : (ByteArray.mk t.toArray).size = t.length := by show t.toArray.size = _; simp
  have := rns_bytes ⟨t.toArray⟩ (by simp [hs]) (ByteArray.mk t.toArray).size 0 (by omega) (fun r hr => (two_of_name (name_all h r hr)).2)
  simpa [runes] using this

/-- a word as it stands alone -/
def WordOK (x : Wd) : Prop :=
  (x.kind = 1 ∧ ∃ rs, x.text = encL rs ∧ nameOf rs = true) ∨
  (x.kind = 2 ∧ (∃ rs, x.text = encL rs ∧ rs ≠ [] ∧ ∀ r ∈ rs, isDigit r = true) ∧ (x.text.all isDig && numL x.text) = true) ∨
  (x.kind = 3 ∧ ∃ b : UInt8, x.text = [b] ∧ b.toNat < 128 ∧ signR (b.toNat : Int) = true)
theorem digits_enc : ∀ t : List UInt8, t.all isDig = true → t = encL (t.map fun b => (b.toNat : Int)) ∧ ∀ r ∈ t.map (fun b => (b.toNat : Int)), isDigit r = true
  | [], _ => ⟨rfl, by simp⟩
  | b :: t, h => by
    rw [List.all_cons, Bool.and_eq_true] at h
    obtain ⟨h1, h2⟩ := h
    unfold isDig at h1
    rw [decide_eq_true_iff] at h1
    obtain ⟨i1, i2⟩ := digits_enc t h2
    refine ⟨?_, ?_⟩
    · rw [List.map_cons, encL_cons, ← i1, enc_small _ (by omega) (by omega)]
      simp
    · intro r hr
      rw [List.map_cons] at hr
      rcases List.mem_cons.1 hr with rfl | hr
      · unfold isDigit; rw [decide_eq_true_iff]; omega
      · exact i2 r hr
theorem word_ok (l : List UInt8) (h0 : l ≠ []) (line col : Nat) (h : ¬ rightL (headW l).1 (l.take (headW l).2.1) (nx l).1 = false) : WordOK ⟨(headW l).1, l.take (headW l).2.1, line, col⟩ := by
  have hb := headW_bd l h0
  have ht : l.take (headW l).2.1 ≠ [] := by
    intro e; have := congrArg List.length e; rw [List.length_take, List.length_nil] at this; omega
  rw [Bool.not_eq_false] at h
  rcases hb.2.2.2 with hk | hk | hk
  · rw [hk] at h ⊢
    unfold rightL at h
    rw [if_pos rfl] at h
    exact .inl ⟨rfl, _, name_bytes _ h, h⟩
  · rw [hk] at h ⊢
    unfold rightL at h
    rw [if_neg (by decide), if_pos rfl] at h
    have hd := (Bool.and_eq_true _ _ ▸ h).1
    obtain ⟨d1, d2⟩ := digits_enc _ hd
    exact .inr (.inl ⟨rfl, ⟨_, d1, by simpa using ht, d2⟩, h⟩)
  · have hn : (headW l).2.1 = (nx l).2 := by
      unfold headW at hk ⊢
      split at hk
      · exact absurd hk (by show ¬ (1 : Int) = 3; decide)
      · split at hk
        · exact absurd hk (by show ¬ (2 : Int) = 3; decide)
        · rename_i a b
          rw [if_neg a, if_neg b]
    rw [hk, hn] at h ⊢
    unfold rightL at h
    rw [if_neg (by decide), if_neg (by decide)] at h
    refine .inr (.inr ⟨rfl, ?_⟩)
    cases l with
    | nil => exact absurd rfl h0
    | cons b t =>
      by_cases hb128 : b.toNat < 128
      · rw [nx_ascii b t hb128] at h ⊢
        exact ⟨b, rfl, hb128, h⟩
      · exfalso
        unfold signR at h
        rw [decide_eq_true_iff] at h
        rcases nx_high b t (by omega) with e | e <;> omega
theorem lexL_ok : ∀ (f : Nat) (l : List UInt8) (line col : Nat) (acc : List Wd), (∀ x ∈ acc, WordOK x) → ∀ x ∈ (lexL f l line col acc).1, WordOK x
  | 0, l, line, col, acc, h => h
  | f + 1, l, line, col, acc, h => by
    by_cases h0 : l = []
    · subst h0; rw [lexL_end]; exact h
    · by_cases h10 : (nx l).1 = 10
      · rw [lexL_feed f l _ _ _ h0 h10]; exact lexL_ok f _ _ _ _ h
      · by_cases hb : (nx l).1 = 32 ∨ (nx l).1 = 9
        · rw [lexL_blank f l _ _ _ h0 hb]; exact lexL_ok f _ _ _ _ h
        · by_cases hr : (nx l).1 = 47 ∧ l[1]? = some 47
          · rw [lexL_remark f l _ _ _ h0 hr.1 hr.2]; exact lexL_ok f _ _ _ _ h
          · rw [lexL_word f l _ _ _ ⟨h0, h10, fun h => hb (.inl h), fun h => hb (.inr h), hr⟩]
            by_cases c1 : rightL (headW l).1 (l.take (headW l).2.1) (nx l).1 = false
            · rw [if_pos c1]; simp
            · rw [if_neg c1]
              by_cases c2 : acc.length = 4000
              · rw [if_pos c2]; simp
              · rw [if_neg c2]
                refine lexL_ok f _ _ _ _ ?_
                intro x hx
                rcases List.mem_append.1 hx with hx | hx
                · exact h x hx
                · have : x = ⟨(headW l).1, l.take (headW l).2.1, line, col⟩ := by simpa using hx
                  subst this
                  exact word_ok l h0 line col c1
/-! read again -/
theorem nx_enc (r : Int) (t : List UInt8) (h : two r) : nx (Lib.encodeRune r ++ t) = (r, (Lib.encodeRune r).length) := by
  have hl := enc_len r
  have hd := decode_enc [] t r h
  have e : Lib.decodeL (Lib.encodeRune r ++ t) = (r.toNat, (Lib.encodeRune r).length) := by
    unfold Lib.decodeL; simpa using hd
  have hne : Lib.encodeRune r ++ t ≠ [] := by
    intro e; have := congrArg List.length e; rw [List.length_append, List.length_nil] at this; omega
  obtain ⟨h0, h1⟩ := h
  unfold nx
  rw [if_neg hne, e, if_neg (by simp only; omega)]
  simp only
  congr 1
  omega
theorem runL_stop32 (f : Nat) (y : List UInt8) : runL f (32 :: y) = (0, 0) := by
  cases f with
  | zero => rfl
  | succ f =>
    rw [runL, if_neg]
    rintro ⟨_, hh⟩
    rw [nx_ascii _ _ (by decide)] at hh
    exact absurd hh (by decide)
theorem runL_enc : ∀ (rs : List Int) (y : List UInt8) (f : Nat), (∀ r ∈ rs, nameRune r = true) → (encL rs).length ≤ f → runL f (encL rs ++ 32 :: y) = ((encL rs).length, rs.length)
  | [], y, f, _, _ => by
    have : encL [] ++ 32 :: y = 32 :: y := rfl
    rw [this, runL_stop32 f y]; rfl
  | r :: rs, y, f, h, hf => by
    have hr := h r List.mem_cons_self
    have hl := enc_len r
    have ht := two_of_name hr
    rw [encL_cons] at hf ⊢
    rw [List.length_append] at hf
    obtain ⟨f, rfl⟩ : ∃ f', f = f' + 1 := ⟨f - 1, by omega⟩
    have hx := nx_enc r (encL rs ++ 32 :: y) ht
    rw [List.append_assoc]
    have hne : Lib.encodeRune r ++ (encL rs ++ 32 :: y) ≠ [] := by
      intro e; have := congrArg List.length e; rw [List.length_append, List.length_nil] at this; omega
    rw [runL, if_pos ⟨hne, by rw [hx]; exact hr⟩, hx]
    simp only
    rw [List.drop_left, runL_enc rs y f (fun x hx => h x (List.mem_cons_of_mem _ hx)) (by omega)]
    simp
/-- what is written of words -/
def flat (ws : List Wd) : List UInt8 := ws.flatMap fun x => x.text ++ [32]
theorem flat_cons (x : Wd) (ws : List Wd) : flat (x :: ws) = x.text ++ 32 :: flat ws := by simp [flat]
/-- a word with a blank behind it is read as it is -/
theorem read_word (x : Wd) (y : List UInt8) (h : WordOK x) : begins (x.text ++ 32 :: y) ∧ (headW (x.text ++ 32 :: y)).1 = x.kind ∧ (headW (x.text ++ 32 :: y)).2.1 = x.text.length ∧ rightL x.kind x.text (nx (x.text ++ 32 :: y)).1 = true := by
  have hne : x.text ++ 32 :: y ≠ [] := by simp
  rcases h with ⟨hk, rs, ht, hn⟩ | ⟨hk, ⟨rs, ht, hn, hd⟩, hr⟩ | ⟨hk, b, ht, hb, hs⟩
  · have hall := name_all hn
    cases rs with
    | nil => simp [nameOf] at hn
    | cons r rs =>
      have hL : isLetter r = true := by
        unfold nameOf at hn; simp only [Bool.and_eq_true, List.headD_cons] at hn; exact hn.1.2
      have htw := two_of_name (hall r List.mem_cons_self)
      have hx : nx (x.text ++ 32 :: y) = (r, (Lib.encodeRune r).length) := by
        rw [ht, encL_cons, List.append_assoc]; exact nx_enc r _ htw
      have hrun : runL (x.text ++ 32 :: y).length (x.text ++ 32 :: y) = (x.text.length, (r :: rs).length) := by
        rw [ht]; exact runL_enc _ _ _ hall (by simp)
      have hLr : (97 ≤ r ∧ r ≤ 122) ∨ (65 ≤ r ∧ r ≤ 90) ∨ (913 ≤ r ∧ r ≤ 969) := by unfold isLetter at hL; rwa [decide_eq_true_iff] at hL
      have hhw : headW (x.text ++ 32 :: y) = (1, x.text.length, (r :: rs).length) := by
        unfold headW; rw [hx, if_pos hL, hrun]
      refine ⟨⟨hne, by rw [hx]; show r ≠ 10; omega, by rw [hx]; show r ≠ 32; omega, by rw [hx]; show r ≠ 9; omega, by rw [hx]; rintro ⟨e, _⟩; have e : r = 47 := e; omega⟩, by rw [hhw, hk], by rw [hhw], ?_⟩
      rw [hk]; unfold rightL
      rw [if_pos rfl, ht, runes_enc _ (fun z hz => two_of_name (hall z hz))]
      exact hn
  · have hall : ∀ r ∈ rs, nameRune r = true := fun r hr => by unfold nameRune; rw [hd r hr]; simp
    cases rs with
    | nil => exact absurd rfl hn
    | cons r rs =>
      have hD := hd r List.mem_cons_self
      have hDr : 48 ≤ r ∧ r ≤ 57 := by unfold isDigit at hD; rwa [decide_eq_true_iff] at hD
      have hL : ¬ isLetter r = true := by unfold isLetter; rw [decide_eq_true_iff]; omega
      have htw := two_of_name (hall r List.mem_cons_self)
      have hx : nx (x.text ++ 32 :: y) = (r, (Lib.encodeRune r).length) := by
        rw [ht, encL_cons, List.append_assoc]; exact nx_enc r _ htw
      have hrun : runL (x.text ++ 32 :: y).length (x.text ++ 32 :: y) = (x.text.length, (r :: rs).length) := by
        rw [ht]; exact runL_enc _ _ _ hall (by simp)
      have hhw : headW (x.text ++ 32 :: y) = (2, x.text.length, (r :: rs).length) := by
        unfold headW; rw [hx, if_neg hL, if_pos hD, hrun]
      refine ⟨⟨hne, by rw [hx]; show r ≠ 10; omega, by rw [hx]; show r ≠ 32; omega, by rw [hx]; show r ≠ 9; omega, by rw [hx]; rintro ⟨e, _⟩; have e : r = 47 := e; omega⟩, by rw [hhw, hk], by rw [hhw], ?_⟩
      rw [hk]; unfold rightL
      rw [if_neg (by decide), if_pos rfl]; exact hr
  · have hx : nx (x.text ++ 32 :: y) = ((b.toNat : Int), 1) := by rw [ht]; exact nx_ascii b _ hb
    have hsr : (b.toNat : Int) = 123 ∨ (b.toNat : Int) = 125 ∨ (b.toNat : Int) = 40 ∨ (b.toNat : Int) = 41 ∨ (b.toNat : Int) = 61 ∨ (b.toNat : Int) = 59 ∨ (b.toNat : Int) = 46 := by unfold signR at hs; rwa [decide_eq_true_iff] at hs
    have hL : ¬ isLetter (b.toNat : Int) = true := by unfold isLetter; rw [decide_eq_true_iff]; omega
    have hD : ¬ isDigit (b.toNat : Int) = true := by unfold isDigit; rw [decide_eq_true_iff]; omega
    have hhw : headW (x.text ++ 32 :: y) = (3, 1, 1) := by
      unfold headW; rw [hx, if_neg hL, if_neg hD]
    refine ⟨⟨hne, by rw [hx]; show (b.toNat : Int) ≠ 10; omega, by rw [hx]; show (b.toNat : Int) ≠ 32; omega, by rw [hx]; show (b.toNat : Int) ≠ 9; omega, by rw [hx]; rintro ⟨e, _⟩; have e : (b.toNat : Int) = 47 := e; omega⟩, by rw [hhw, hk], by rw [hhw, ht]; rfl, ?_⟩
    rw [hk, hx]; unfold rightL
    rw [if_neg (by decide), if_neg (by decide)]; exact hs
theorem lexL_again : ∀ (ws : List Wd) (f line col : Nat) (acc : List Wd), (∀ x ∈ ws, WordOK x) → (flat ws).length ≤ f → acc.length + ws.length ≤ 4000 →
    ∃ out, lexL f (flat ws) line col acc = (acc ++ out, (0, 0), 0) ∧ kt out = kt ws
  | [], f, line, col, acc, _, _, _ => ⟨[], by rw [show flat [] = [] from rfl, lexL_end, List.append_nil], rfl⟩
  | x :: ws, f, line, col, acc, h, hf, hc => by
    have hx := h x List.mem_cons_self
    obtain ⟨hbg, h1, h2, h3⟩ := read_word x (flat ws) hx
    rw [flat_cons] at hf ⊢
    rw [List.length_append, List.length_cons] at hf
    rw [List.length_cons] at hc
    have hp : 1 ≤ x.text.length := by
      have := (headW_bd _ hbg.1).1; rw [h2] at this; exact this
    obtain ⟨f, rfl⟩ : ∃ f', f = f' + 2 := ⟨f - 2, by omega⟩
    rw [show f + 2 = (f + 1) + 1 from rfl, lexL_word _ _ _ _ _ hbg, h1, h2, List.take_left, h3, if_neg (by decide), if_neg (by omega), List.drop_left]
    rw [lexL_blank f _ _ _ _ (by simp) (by rw [nx_ascii _ _ (by decide)]; exact .inl rfl)]
    show ∃ out, lexL f (flat ws) _ _ _ = _ ∧ _
    obtain ⟨out, e1, e2⟩ := lexL_again ws f line (col + (headW (x.text ++ 32 :: flat ws)).2.2 + 1) (acc ++ [⟨x.kind, x.text, line, col⟩]) (fun z hz => h z (List.mem_cons_of_mem _ hz)) (by omega) (by simp; omega)
    refine ⟨⟨x.kind, x.text, line, col⟩ :: out, ?_, ?_⟩
    · rw [e1]; simp
    · unfold kt at e2 ⊢; rw [List.map_cons, List.map_cons, e2]
/-- what is written of the words has the same words -/
theorem words_again (l : List UInt8) : (20000 < (flat (wordsL l).1).length → (wordsL (flat (wordsL l).1)).2.2 = 4) ∧
    (¬ 20000 < (flat (wordsL l).1).length → (wordsL (flat (wordsL l).1)).2.2 = 0 ∧ kt (wordsL (flat (wordsL l).1)).1 = kt (wordsL l).1) := by
  have hok : ∀ x ∈ (wordsL l).1, WordOK x := by
    unfold wordsL
    split
    · simp
    · exact lexL_ok _ _ _ _ _ (by simp)
  have hct : (wordsL l).1.length ≤ 4000 := by
    unfold wordsL
    split
    · simp
    · exact lexL_count _ _ _ _ _ (by simp)
  generalize (wordsL l).1 = ws at *
  refine ⟨fun h => ?_, fun h => ?_⟩
  · unfold wordsL; rw [if_pos h]
  · unfold wordsL; rw [if_neg h]
    obtain ⟨out, e1, e2⟩ := lexL_again ws (flat ws).length 1 1 [] hok (Nat.le_refl _) (by simpa using hct)
    rw [e1]
    exact ⟨rfl, by simpa using e2⟩
end Go.Proofs.YtngmimbpakmkiaaGreatDoor
namespace Go.Proofs.YtngmimbpakmkiaaGreatDoor
set_option linter.unusedVariables false

/-- nothing, or a byte that goes on no rune -/
def Stop (t : List UInt8) : Prop := t = [] ∨ ∃ a u, t = a :: u ∧ a.toNat < 128
theorem get_appG (s t : List UInt8) (k : Nat) (h : k < s.length) : (ByteArray.mk (s ++ t).toArray).get! (0 + k) = (ByteArray.mk s.toArray).get! (0 + k) := by
  rw [Nat.zero_add]
  show (s ++ t).toArray[k]! = s.toArray[k]!
  rw [getElem!_def, getElem!_def]
  simp only [List.getElem?_toArray, List.getElem?_append_left h]
theorem size_appG (s t : List UInt8) : (ByteArray.mk (s ++ t).toArray).size = s.length + t.length := by
  show (s ++ t).toArray.size = _
  simp
theorem cont_appG (s t : List UInt8) (k : Nat) (h : k < s.length) : contA ⟨(s ++ t).toArray⟩ k = contA ⟨s.toArray⟩ k := by
  unfold contA
  have e : (ByteArray.mk s.toArray).size = s.length := by show s.toArray.size = _; simp
  rw [get_appG s t k h, size_appG, e, decide_eq_true (by omega), decide_eq_true (by omega)]
theorem cont_endG (s t : List UInt8) (h : Stop t) : contA ⟨(s ++ t).toArray⟩ s.length = false := by
  unfold contA
  rcases h with rfl | ⟨a, u, rfl, ha⟩
  · rw [size_appG]; simp
  · have : (ByteArray.mk (s ++ a :: u).toArray).get! (0 + s.length) = a := by
      rw [Nat.zero_add]
      show (s ++ a :: u).toArray[s.length]! = a
      rw [getElem!_def]
      simp
    rw [this]
    have : ¬ a.toNat / 64 = 2 := by omega
    simp [this]
theorem decode_stop (s t : List UInt8) (h : s ≠ []) (ht : Stop t) : Lib.decodeL (s ++ t) = Lib.decodeL s ∧ (Lib.decodeL s).2 ≤ s.length := by
  have hp := List.length_pos_iff.2 h
  unfold Lib.decodeL
  rw [decode_dec4, decode_dec4]
  have g := get_appG s t
  have c := cont_appG s t
  have ce := cont_endG s t ht
  have ce0 := cont_endG s [] (.inl rfl)
  rw [List.append_nil] at ce0
  have hs : s.length = 1 ∨ s.length = 2 ∨ s.length = 3 ∨ 4 ≤ s.length := by omega
  rcases hs with hs | hs | hs | hs
  · rw [hs] at ce ce0
    rw [ce, ce0, g 0 (by omega), hs]
    exact ⟨(dec4_c1 _ _ _ _ _ _).trans (dec4_c1 _ _ _ _ _ _).symm, dec4_w1 _ _ _ _ _ _⟩
  · rw [hs] at ce ce0
    rw [ce, ce0, g 0 (by omega), g 1 (by omega), c 1 (by omega), hs]
    exact ⟨(dec4_c2 _ _ _ _ _ _).trans (dec4_c2 _ _ _ _ _ _).symm, dec4_w2 _ _ _ _ _ _⟩
  · rw [hs] at ce ce0
    rw [ce, ce0, g 0 (by omega), g 1 (by omega), g 2 (by omega), c 1 (by omega), c 2 (by omega), hs]
    exact ⟨(dec4_c3 _ _ _ _ _ _).trans (dec4_c3 _ _ _ _ _ _).symm, dec4_w3 _ _ _ _ _ _⟩
  · rw [g 0 (by omega), g 1 (by omega), g 2 (by omega), g 3 (by omega), c 1 (by omega), c 2 (by omega), c 3 (by omega)]
    exact ⟨rfl, Nat.le_trans (dec4_w4 _ _ _ _ _ _ _) hs⟩
theorem nx_stop (s t : List UInt8) (h : s ≠ []) (ht : Stop t) : nx (s ++ t) = nx s ∧ (nx s).2 ≤ s.length := by
  obtain ⟨h1, h2⟩ := decode_stop s t h ht
  refine ⟨?_, (nx_width s h).2⟩
  unfold nx
  rw [if_neg (c := s ++ t = []) (by intro e; exact h (List.append_eq_nil_iff.1 e).1), if_neg h, h1]
/-- behind it no name and no number goes on -/
def Ends (t : List UInt8) : Prop := t = [] ∨ nameRune (nx t).1 = false
theorem run_stop (t : List UInt8) (ht : Stop t) (he : Ends t) : ∀ (f g : Nat) (s : List UInt8), (s ++ t).length ≤ f → s.length ≤ g → runL f (s ++ t) = runL g s := by
  intro f
  induction f with
  | zero =>
    intro g s hf hg
    have : s = [] := List.eq_nil_of_length_eq_zero (by rw [List.length_append] at hf; omega)
    subst this
    cases g with
    | zero => rfl
    | succ g => rw [runL, runL, if_neg (by simp)]
  | succ f ih =>
    intro g s hf hg
    by_cases hs : s = []
    · subst hs
      have r0 : ∀ k, runL k ([] : List UInt8) = (0, 0) := fun k => by cases k with
        | zero => rfl
        | succ k => rw [runL, if_neg (by simp)]
      rw [r0, List.nil_append, runL]
      rcases he with rfl | he
      · rw [if_neg (by simp)]
      · rw [if_neg (by rw [he]; simp)]
    · have hp := List.length_pos_iff.2 hs
      obtain ⟨g, rfl⟩ : ∃ g', g = g' + 1 := ⟨g - 1, by omega⟩
      obtain ⟨n1, n2⟩ := nx_stop s t hs ht
      have nw := nx_width s hs
      have hne : s ++ t ≠ [] := fun e => hs (List.append_eq_nil_iff.1 e).1
      rw [runL, runL, n1]
      by_cases hr : nameRune (nx s).1 = true
      · rw [if_pos ⟨hne, hr⟩, if_pos ⟨hs, hr⟩, List.drop_append_of_le_length n2, ih g (s.drop (nx s).2) (by rw [List.length_append, List.length_drop]; rw [List.length_append] at hf; omega) (by rw [List.length_drop]; omega)]
      · rw [if_neg (fun hh => hr hh.2), if_neg (fun hh => hr hh.2)]
theorem head_stop (s t : List UInt8) (hs : s ≠ []) (ht : Stop t) (he : Ends t) : headW (s ++ t) = headW s := by
  unfold headW
  rw [(nx_stop s t hs ht).1, run_stop t ht he _ s.length s (Nat.le_refl _) (Nat.le_refl _)]
theorem skip_stop (t : List UInt8) (ht : t = [] ∨ t.head? = some 10) : ∀ (f g : Nat) (s : List UInt8), (s ++ t).length ≤ f → s.length ≤ g → skipL f (s ++ t) = skipL g s := by
  have hst : Stop t := by
    rcases ht with rfl | ht
    · exact .inl rfl
    · cases t with
      | nil => cases ht
      | cons a u => exact .inr ⟨a, u, rfl, by have : a = 10 := by simpa using ht
                                              rw [this]; decide⟩
  intro f
  induction f with
  | zero =>
    intro g s hf hg
    have : s = [] := List.eq_nil_of_length_eq_zero (by rw [List.length_append] at hf; omega)
    subst this
    cases g with
    | zero => rfl
    | succ g => rw [skipL, skipL, if_neg (by simp)]
  | succ f ih =>
    intro g s hf hg
    by_cases hs : s = []
    · subst hs
      rw [skipL_stop g [] (.inl rfl), List.nil_append, skipL_stop _ t ht]
    · have hp := List.length_pos_iff.2 hs
      obtain ⟨g, rfl⟩ : ∃ g', g = g' + 1 := ⟨g - 1, by omega⟩
      obtain ⟨n1, n2⟩ := nx_stop s t hs hst
      have nw := nx_width s hs
      have hne : s ++ t ≠ [] := fun e => hs (List.append_eq_nil_iff.1 e).1
      have hh : (s ++ t).head? = s.head? := by cases s with
        | nil => exact absurd rfl hs
        | cons a u => rfl
      rw [skipL, skipL, n1, hh]
      by_cases hr : s.head? ≠ some 10
      · rw [if_pos ⟨hne, hr⟩, if_pos ⟨hs, hr⟩, List.drop_append_of_le_length n2, ih g (s.drop (nx s).2) (by rw [List.length_append, List.length_drop]; rw [List.length_append] at hf; omega) (by rw [List.length_drop]; omega)]
      · rw [if_neg (fun hh => hr hh.2), if_neg (fun hh => hr hh.2)]
theorem ends_feed : Ends [10] := .inr (by rw [nx_feed]; decide)
theorem stop_feed : Stop [10] := .inr ⟨10, [], rfl, by decide⟩
/-- a line feed at the end says nothing -/
theorem lex_end : ∀ (n : Nat) (s : List UInt8), s.length ≤ n → ∀ (f g line col : Nat) (acc : List Wd), s.length ≤ f → s.length + 1 ≤ g →
    (lexL f s line col acc).1 = (lexL g (s ++ [10]) line col acc).1 ∧ (lexL f s line col acc).2.2 = (lexL g (s ++ [10]) line col acc).2.2 := by
  intro n
  induction n with
  | zero =>
    intro s hn f g line col acc hf hg
    have : s = [] := List.eq_nil_of_length_eq_zero (by omega)
    subst this
    obtain ⟨g, rfl⟩ : ∃ g', g = g' + 1 := ⟨g - 1, by omega⟩
    rw [lexL_end, List.nil_append, lexL_feed g [10] _ _ _ (by simp) (by rw [nx_feed])]
    simp only [List.drop_one, List.tail_cons]
    rw [lexL_end]
    exact ⟨rfl, rfl⟩
  | succ n ih =>
    intro s hn f g line col acc hf hg
    by_cases hs : s = []
    · subst hs
      exact ih [] (by simp) f g line col acc hf hg
    · have hp := List.length_pos_iff.2 hs
      obtain ⟨f, rfl⟩ : ∃ f', f = f' + 1 := ⟨f - 1, by omega⟩
      obtain ⟨g, rfl⟩ : ∃ g', g = g' + 1 := ⟨g - 1, by omega⟩
      obtain ⟨n1, n2⟩ := nx_stop s [10] hs stop_feed
      have nw := nx_width s hs
      have hne : s ++ [10] ≠ [] := by simp
      have hd1 : ∀ k, k ≤ s.length → (s ++ [10]).drop k = s.drop k ++ [10] := fun k hk => List.drop_append_of_le_length hk
      have go : ∀ (k l2 c2 : Nat) (a2 : List Wd), 1 ≤ k → k ≤ s.length → (lexL f (s.drop k) l2 c2 a2).1 = (lexL g ((s ++ [10]).drop k) l2 c2 a2).1 ∧ (lexL f (s.drop k) l2 c2 a2).2.2 = (lexL g ((s ++ [10]).drop k) l2 c2 a2).2.2 := fun k l2 c2 a2 k1 k2 => by
        rw [hd1 k k2]
        exact ih (s.drop k) (by rw [List.length_drop]; omega) f g l2 c2 a2 (by rw [List.length_drop]; omega) (by rw [List.length_drop]; omega)
      by_cases h10 : (nx s).1 = 10
      · rw [lexL_feed f s _ _ _ hs h10, lexL_feed g _ _ _ _ hne (by rw [n1]; exact h10)]
        exact go 1 _ _ _ (by omega) (by omega)
      · by_cases hb : (nx s).1 = 32 ∨ (nx s).1 = 9
        · rw [lexL_blank f s _ _ _ hs hb, lexL_blank g _ _ _ _ hne (by rw [n1]; exact hb)]
          exact go 1 _ _ _ (by omega) (by omega)
        · have h1e : (s ++ [10])[1]? = some 47 ↔ s[1]? = some 47 := by
            by_cases hl : 1 < s.length
            · rw [List.getElem?_append_left hl]
            · have hl1 : s.length = 1 := by omega
              have e1 : (s ++ [10])[1]? = some 10 := by rw [List.getElem?_append_right (by omega), hl1]; rfl
              have e2 : s[1]? = none := List.getElem?_eq_none (by omega)
              rw [e1, e2]; simp
          by_cases hr : (nx s).1 = 47 ∧ s[1]? = some 47
          · rw [lexL_remark f s _ _ _ hs hr.1 hr.2, lexL_remark g _ _ _ _ hne (by rw [n1]; exact hr.1) (h1e.2 hr.2), skip_stop [10] (.inr rfl) _ s.length s (Nat.le_refl _) (Nat.le_refl _)]
            have hsl := skipL_le s.length s
            have hs1 : 1 ≤ (skipL s.length s).1 := by
              obtain ⟨k, hk⟩ : ∃ k, s.length = k + 1 := ⟨s.length - 1, by omega⟩
              rw [hk, skipL_step k s hs (fun e => h10 (by
                cases s with
                | nil => exact absurd rfl hs
                | cons a u => have : a = 10 := by simpa using e
                              subst this; rw [nx_feed]))]
              show 1 ≤ (nx s).2 + _
              omega
            exact go _ _ _ _ hs1 hsl.1
          · have hbg : begins s := ⟨hs, h10, fun h => hb (.inl h), fun h => hb (.inr h), hr⟩
            have hbg' : begins (s ++ [10]) := ⟨hne, by rw [n1]; exact h10, by rw [n1]; exact fun h => hb (.inl h), by rw [n1]; exact fun h => hb (.inr h), by rw [n1]; exact fun h => hr ⟨h.1, h1e.1 h.2⟩⟩
            have hbd := headW_bd s hs
            rw [lexL_word f s _ _ _ hbg, lexL_word g _ _ _ _ hbg', head_stop s [10] hs stop_feed ends_feed, n1, List.take_append_of_le_length hbd.2.1]
            by_cases c1 : rightL (headW s).1 (s.take (headW s).2.1) (nx s).1 = false
            · rw [if_pos c1, if_pos c1]; exact ⟨rfl, rfl⟩
            · rw [if_neg c1, if_neg c1]
              by_cases c2 : acc.length = 4000
              · rw [if_pos c2, if_pos c2]; exact ⟨rfl, rfl⟩
              · rw [if_neg c2, if_neg c2]
                exact go _ _ _ _ hbd.1 hbd.2.1
/-- with words ahead: the same words behind them, or there are too many -/
theorem lex_ahead (a : List Wd) : ∀ (f : Nat) (l : List UInt8) (line col : Nat) (acc : List Wd), (a ++ acc).length ≤ 4000 → (lexL f l line col acc).2.2 = 0 →
    (lexL f l line col (a ++ acc)).2.2 = 4 ∨ ((lexL f l line col (a ++ acc)).2.2 = 0 ∧ (lexL f l line col (a ++ acc)).1 = a ++ (lexL f l line col acc).1) := by
  intro f
  induction f with
  | zero => intro l line col acc _ _; exact .inr ⟨rfl, rfl⟩
  | succ f ih =>
    intro l line col acc hl h
    by_cases h0 : l = []
    · subst h0; rw [lexL_end, lexL_end]; exact .inr ⟨rfl, rfl⟩
    · by_cases h10 : (nx l).1 = 10
      · rw [lexL_feed f l _ _ _ h0 h10] at h ⊢; rw [lexL_feed f l _ _ _ h0 h10]; exact ih _ _ _ _ hl h
      · by_cases hb : (nx l).1 = 32 ∨ (nx l).1 = 9
        · rw [lexL_blank f l _ _ _ h0 hb] at h ⊢; rw [lexL_blank f l _ _ _ h0 hb]; exact ih _ _ _ _ hl h
        · by_cases hr : (nx l).1 = 47 ∧ l[1]? = some 47
          · rw [lexL_remark f l _ _ _ h0 hr.1 hr.2] at h ⊢; rw [lexL_remark f l _ _ _ h0 hr.1 hr.2]; exact ih _ _ _ _ hl h
          · have hbg : begins l := ⟨h0, h10, fun h => hb (.inl h), fun h => hb (.inr h), hr⟩
            rw [lexL_word f l _ _ _ hbg] at h ⊢
            rw [lexL_word f l _ _ _ hbg]
            by_cases c1 : rightL (headW l).1 (l.take (headW l).2.1) (nx l).1 = false
            · rw [if_pos c1] at h; cases h
            · rw [if_neg c1] at h ⊢
              rw [if_neg c1]
              by_cases c2 : acc.length = 4000
              · rw [if_pos c2] at h; cases h
              · rw [if_neg c2] at h ⊢
                by_cases c3 : (a ++ acc).length = 4000
                · rw [if_pos c3]; exact .inl rfl
                · rw [if_neg c3, List.append_assoc]
                  exact ih _ _ _ _ (by simp at hl c3 ⊢; omega) h
/-- two texts, one behind the other -/
theorem words_join (s t : List UInt8) (hs : s.length ≤ 5000) (ht : t.length ≤ 5000) (h1 : (wordsL s).2.2 = 0) (h2 : (wordsL t).2.2 = 0) :
    (wordsL (s ++ 10 :: t)).2.2 = 4 ∨ ((wordsL (s ++ 10 :: t)).2.2 = 0 ∧ kt (wordsL (s ++ 10 :: t)).1 = kt (wordsL s).1 ++ kt (wordsL t).1) := by
  unfold wordsL at *
  rw [if_neg (by omega)] at h1 h2
  rw [if_neg (by simp; omega), if_neg (by omega), if_neg (by omega)]
  have e := lex_end s.length s (Nat.le_refl _) s.length (s ++ [10]).length 1 1 [] (Nat.le_refl _) (by simp)
  rcases lex_prefix s.length s (Nat.le_refl _) 1 1 [] (by simp) with ⟨p, c, hc, ih⟩ | ⟨l2, a2, ha2, ih⟩
  · exfalso
    rw [ih [] _ (Nat.le_refl _), h1] at e
    exact hc e.2.symm
  · rw [ih [] _ (Nat.le_refl _)] at e
    have e1 : (lexL s.length s 1 1 []).1 = a2 := by rw [e.1, lexL_end]
    rw [ih t _ (Nat.le_refl _), e1]
    have k := lexL_kt t.length t l2 1 [] 1 1 [] rfl
    rw [h2] at k
    rcases lex_ahead a2 t.length t l2 1 [] (by rw [List.append_nil]; exact ha2) k.2 with h | ⟨h, h'⟩
    · rw [List.append_nil] at h; exact .inl h
    · rw [List.append_nil] at h h'
      refine .inr ⟨h, ?_⟩
      rw [h', ← k.1]
      unfold kt
      rw [List.map_append]
end Go.Proofs.YtngmimbpakmkiaaGreatDoor
namespace Go.Proofs.YtngmimbpakmkiaaGreatDoor
set_option linter.unusedVariables false

/-- the kind of a type by a word; 0: it is none -/
def scalarOf (l : List UInt8) : Int :=
  if (l == [105, 110, 116, 54, 52]) = true then 1 else if (l == [117, 105, 110, 116, 54, 52]) = true then 2 else if (l == [115, 105, 110, 116, 54, 52]) = true then 3
  else if (l == [98, 111, 111, 108]) = true then 4 else if (l == [115, 116, 114, 105, 110, 103]) = true then 5 else if (l == [98, 121, 116, 101, 115]) = true then 6
  else if (l == [102, 105, 120, 101, 100, 51, 50]) = true then 7 else if (l == [102, 105, 120, 101, 100, 54, 52]) = true then 8 else 0
/-- whether a word is reserved -/
def resOf (l : List UInt8) : Bool :=
  l == [109, 101, 115, 115, 97, 103, 101] || l == [101, 110, 117, 109] || l == [115, 101, 114, 118, 105, 99, 101] || l == [114, 112, 99] || l == [114, 101, 116, 117, 114, 110, 115] || l == [114, 101, 112, 101, 97, 116, 101, 100] || decide (0 < scalarOf l)
end Go.Proofs.YtngmimbpakmkiaaGreatDoor
namespace Go.Proofs.YtngmimbpakmkiaaGreatDoor
set_option linter.unusedVariables false

structure Fd where
  rep : Bool
  type : List UInt8
  name : List UInt8
  num : Int
  line : Int
  col : Int
structure Vl where
  name : List UInt8
  num : Int
  line : Int
  col : Int
structure Mt where
  name : List UInt8
  inp : List UInt8
  out : List UInt8
  line : Int
  col : Int
structure Dc where
  kind : Int
  name : List UInt8
  line : Int
  col : Int
  fields : List Fd
  values : List Vl
  methods : List Mt
  inner : List Dc
/-- the words that are left, the first error (0: none), and its place -/
structure Rd where
  l : List Wd
  e : Int
  pl : Int
  pc : Int
abbrev tMessage : List UInt8 := [109, 101, 115, 115, 97, 103, 101]
abbrev tEnum : List UInt8 := [101, 110, 117, 109]
abbrev tService : List UInt8 := [115, 101, 114, 118, 105, 99, 101]
abbrev tRpc : List UInt8 := [114, 112, 99]
abbrev tReturns : List UInt8 := [114, 101, 116, 117, 114, 110, 115]
abbrev tRepeated : List UInt8 := [114, 101, 112, 101, 97, 116, 101, 100]
section
variable (en : Int × Int)
/-- the place of the next word, or the end -/
def Rd.here (r : Rd) : Int × Int := match r.l with
  | [] => en
  | x :: _ => ((x.line : Int), (x.col : Int))
def Rd.fail (r : Rd) (e : Int) (p : Int × Int) : Rd := if r.e = 0 then ⟨r.l, e, p.1, p.2⟩ else r
/-- is the next word this one? -/
def Rd.is (r : Rd) (t : List UInt8) : Bool := decide (r.e = 0) && (match r.l with
  | [] => false
  | x :: _ => x.text == t)
def Rd.tail (r : Rd) : Rd := ⟨r.l.tail, r.e, r.pl, r.pc⟩
def Rd.take (r : Rd) (t : List UInt8) : Rd := if r.is t = true then r.tail else r.fail 7 (r.here en)
def Rd.isName (r : Rd) : Bool := decide (r.e = 0) && (match r.l with
  | [] => false
  | x :: _ => decide (x.kind = 1) && !resOf x.text)
def Rd.isNum (r : Rd) : Bool := decide (r.e = 0) && (match r.l with
  | [] => false
  | x :: _ => decide (x.kind = 2))
def Rd.isScal (r : Rd) : Bool := decide (r.e = 0) && (match r.l with
  | [] => false
  | x :: _ => decide (0 < scalarOf x.text))
def Rd.text (r : Rd) : List UInt8 := match r.l with
  | [] => []
  | x :: _ => x.text
/-- behind a name, or at the error -/
def Rd.name (r : Rd) : Rd := if r.isName = true then r.tail else r.fail 7 (r.here en)
def Rd.nameT (r : Rd) : List UInt8 := if r.isName = true then r.text else []
def Rd.nameP (r : Rd) : Int × Int := if r.isName = true then r.here en else (0, 0)
def Rd.number (r : Rd) : Rd := if r.isNum = true then r.tail else r.fail 7 (r.here en)
def Rd.numberV (r : Rd) : Int := if r.isNum = true then numV 0 r.text else 0
/-- the rest of a path: its text so far, behind so many names -/
def pathL (first : Int × Int) : Nat → Nat → List UInt8 → Rd → List UInt8 × Rd
  | 0, _, s, r => (s, r)
  | f + 1, n, s, r => if r.is [46] = true then
      pathL first f (n + 1) (s ++ [46] ++ (r.take en [46]).nameT) (if n = 8 then ((r.take en [46]).name en).fail 8 first else (r.take en [46]).name en)
    else (s, r)
def Rd.path (r : Rd) : List UInt8 × Rd := pathL en (r.here en) (r.l.length + 1) 1 r.nameT (r.name en)
/-- the type of a field -/
def Rd.typ (r : Rd) : List UInt8 × Rd := if r.isScal = true then (r.text, r.tail) else r.path en
def Rd.field (r : Rd) : Fd × Rd :=
  let r1 := if r.is tRepeated = true then r.take en tRepeated else r
  let t := r1.typ en
  let r3 := (t.2.name en).take en [61]
  (⟨r.is tRepeated, t.1, t.2.nameT, r3.numberV, (t.2.nameP en).1, (t.2.nameP en).2⟩, (r3.number en).take en [59])
def Rd.value (r : Rd) : Vl × Rd :=
  let r3 := (r.name en).take en [61]
  (⟨r.nameT, r3.numberV, (r.nameP en).1, (r.nameP en).2⟩, (r3.number en).take en [59])
def valuesL : Nat → Rd → List Vl → List Vl × Rd
  | 0, r, acc => (acc, r)
  | f + 1, r, acc => if r.e = 0 ∧ r.is [125] = false then valuesL f (r.value en).2 (acc ++ [(r.value en).1]) else (acc, r)
def Rd.enum (r : Rd) : Dc × Rd :=
  let r1 := r.take en tEnum
  let r3 := (r1.name en).take en [123]
  let b := valuesL en (r3.l.length + 1) r3 []
  (⟨2, r1.nameT, (r1.nameP en).1, (r1.nameP en).2, [], b.1, [], []⟩, b.2.take en [125])
def Rd.method (r : Rd) : Mt × Rd :=
  let r1 := r.take en tRpc
  let a := ((r1.name en).take en [40]).path en
  let b := (((a.2.take en [41]).take en tReturns).take en [40]).path en
  (⟨r1.nameT, a.1, b.1, (r1.nameP en).1, (r1.nameP en).2⟩, (b.2.take en [41]).take en [59])
def methodsL : Nat → Rd → List Mt → List Mt × Rd
  | 0, r, acc => (acc, r)
  | f + 1, r, acc => if r.e = 0 ∧ r.is [125] = false then methodsL f (r.method en).2 (acc ++ [(r.method en).1]) else (acc, r)
def Rd.service (r : Rd) : Dc × Rd :=
  let r1 := r.take en tService
  let r3 := (r1.name en).take en [123]
  let b := methodsL en (r3.l.length + 1) r3 []
  (⟨3, r1.nameT, (r1.nameP en).1, (r1.nameP en).2, [], [], b.1, []⟩, b.2.take en [125])
/-- what lies in a message -/
def bodyL (msg : Rd → Dc × Rd) : Nat → Rd → List Fd → List Dc → (List Fd × List Dc) × Rd
  | 0, r, fs, ds => ((fs, ds), r)
  | f + 1, r, fs, ds => if r.e = 0 ∧ r.is [125] = false then
      (if r.is tMessage = true then bodyL msg f (msg r).2 fs (ds ++ [(msg r).1])
      else if r.is tEnum = true then bodyL msg f (r.enum en).2 fs (ds ++ [(r.enum en).1])
      else bodyL msg f (r.field en).2 (fs ++ [(r.field en).1]) ds)
    else ((fs, ds), r)
def messageL : Nat → Nat → Rd → Dc × Rd
  | 0, _, r => (⟨1, [], 0, 0, [], [], [], []⟩, r)
  | k + 1, depth, r =>
    let r0 := if 8 < depth then r.fail 8 (r.here en) else r
    let r1 := r0.take en tMessage
    let r3 := (r1.name en).take en [123]
    let b := bodyL en (messageL k (depth + 1)) (r3.l.length + 1) r3 [] []
    (⟨1, r1.nameT, (r1.nameP en).1, (r1.nameP en).2, b.1.1, [], [], b.1.2⟩, b.2.take en [125])
def Rd.message (r : Rd) (depth : Nat) : Dc × Rd := messageL en (10 - depth) depth r
def declsL : Nat → Rd → List Dc → List Dc × Rd
  | 0, r, acc => (acc, r)
  | f + 1, r, acc => if r.e = 0 ∧ r.l ≠ [] then
      (if r.is tMessage = true then declsL f (r.message en 1).2 (acc ++ [(r.message en 1).1])
      else if r.is tEnum = true then declsL f (r.enum en).2 (acc ++ [(r.enum en).1])
      else if r.is tService = true then declsL f (r.service en).2 (acc ++ [(r.service en).1])
      else declsL f (r.fail 7 (r.here en)) acc)
    else (acc, r)
end
/-- the place behind the last rune -/
def endL : Nat → List UInt8 → Nat → Nat → Nat × Nat
  | 0, _, line, col => (line, col)
  | f + 1, l, line, col => if l = [] then (line, col) else if (nx l).1 = 10 then endL f (l.drop (nx l).2) (line + 1) 1 else endL f (l.drop (nx l).2) line (col + 1)
def endOf (l : List UInt8) : Nat × Nat := endL l.length l 1 1
/-- what words declare -/
def fileW (en : Int × Int) (ws : List Wd) : List Dc × (Int × Int) × Int :=
  let b := declsL en (ws.length + 1) ⟨ws, 0, 0, 0⟩ []
  if b.2.e = 0 then (b.1, (0, 0), 0) else ([], (b.2.pl, b.2.pc), b.2.e)
/-- what a text declares -/
def fileL (l : List UInt8) : List Dc × (Int × Int) × Int :=
  if (wordsL l).2.2 = 0 then fileW (((endOf l).1 : Int), ((endOf l).2 : Int)) (wordsL l).1 else ([], (((wordsL l).2.1.1 : Int), ((wordsL l).2.1.2 : Int)), (wordsL l).2.2)

/-! ### each step goes on, or ends in an error -/
/-- so many words are left, if there is no error -/
def Rd.m (r : Rd) : Nat := if r.e = 0 then r.l.length + 1 else 0
theorem Rd.m_fail (r : Rd) (e : Int) (p : Int × Int) (he : e ≠ 0) : (r.fail e p).m = 0 := by
  unfold Rd.fail Rd.m
  by_cases h : r.e = 0
  · rw [if_pos h]; simp [he]
  · rw [if_neg h, if_neg h]
theorem Rd.m_tail (r : Rd) (h : r.l ≠ []) : r.tail.m ≤ r.m - 1 := by
  unfold Rd.tail Rd.m
  by_cases he : r.e = 0
  · have hp := List.length_pos_iff.2 h
    rw [if_pos he, if_pos he, List.length_tail]
    omega
  · rw [if_neg he]; omega
theorem Rd.is_ok {r : Rd} {t : List UInt8} (h : r.is t = true) : r.e = 0 ∧ r.l ≠ [] ∧ r.text = t := by
  unfold Rd.is at h
  rw [Bool.and_eq_true, decide_eq_true_iff] at h
  obtain ⟨h1, h2⟩ := h
  unfold Rd.text
  cases hl : r.l with
  | nil => rw [hl] at h2; cases h2
  | cons x t => rw [hl] at h2; exact ⟨h1, by simp, by simpa using h2⟩
theorem Rd.isName_ok {r : Rd} (h : r.isName = true) : r.e = 0 ∧ r.l ≠ [] := by
  unfold Rd.isName at h
  rw [Bool.and_eq_true, decide_eq_true_iff] at h
  refine ⟨h.1, fun e => ?_⟩
  rw [e] at h; cases h.2
theorem Rd.isNum_ok {r : Rd} (h : r.isNum = true) : r.e = 0 ∧ r.l ≠ [] := by
  unfold Rd.isNum at h
  rw [Bool.and_eq_true, decide_eq_true_iff] at h
  refine ⟨h.1, fun e => ?_⟩
  rw [e] at h; cases h.2
theorem Rd.isScal_ok {r : Rd} (h : r.isScal = true) : r.e = 0 ∧ r.l ≠ [] := by
  unfold Rd.isScal at h
  rw [Bool.and_eq_true, decide_eq_true_iff] at h
  refine ⟨h.1, fun e => ?_⟩
  rw [e] at h; cases h.2
section
variable (en : Int × Int)
theorem Rd.m_take (r : Rd) (t : List UInt8) : (r.take en t).m ≤ r.m - 1 := by
  unfold Rd.take
  by_cases h : r.is t = true
  · rw [if_pos h]; exact r.m_tail (Rd.is_ok h).2.1
  · rw [if_neg h, Rd.m_fail _ _ _ (by decide)]; omega
theorem Rd.m_name (r : Rd) : (r.name en).m ≤ r.m - 1 := by
  unfold Rd.name
  by_cases h : r.isName = true
  · rw [if_pos h]; exact r.m_tail (Rd.isName_ok h).2
  · rw [if_neg h, Rd.m_fail _ _ _ (by decide)]; omega
theorem Rd.m_number (r : Rd) : (r.number en).m ≤ r.m - 1 := by
  unfold Rd.number
  by_cases h : r.isNum = true
  · rw [if_pos h]; exact r.m_tail (Rd.isNum_ok h).2
  · rw [if_neg h, Rd.m_fail _ _ _ (by decide)]; omega
theorem Rd.m_fail_le (r : Rd) (e : Int) (p : Int × Int) (he : e ≠ 0) : (r.fail e p).m ≤ r.m := by rw [Rd.m_fail _ _ _ he]; omega
theorem pathL_m (first : Int × Int) : ∀ (f n : Nat) (s : List UInt8) (r : Rd), (pathL en first f n s r).2.m ≤ r.m
  | 0, n, s, r => Nat.le_refl _
  | f + 1, n, s, r => by
    unfold pathL
    by_cases h : r.is [46] = true
    · rw [if_pos h]
      refine Nat.le_trans (pathL_m first f _ _ _) ?_
      have h1 := Rd.m_take en r [46]
      have h2 := Rd.m_name en (r.take en [46])
      by_cases h8 : n = 8
      · rw [if_pos h8, Rd.m_fail _ _ _ (by decide)]; omega
      · rw [if_neg h8]; omega
    · rw [if_neg h]; exact Nat.le_refl _
theorem Rd.m_path (r : Rd) : (r.path en).2.m ≤ r.m - 1 := Nat.le_trans (pathL_m en _ _ _ _ _) (Rd.m_name en r)
theorem Rd.m_typ (r : Rd) : (r.typ en).2.m ≤ r.m - 1 := by
  unfold Rd.typ
  by_cases h : r.isScal = true
  · rw [if_pos h]; exact r.m_tail (Rd.isScal_ok h).2
  · rw [if_neg h]; exact Rd.m_path en r
theorem Rd.m_field (r : Rd) : (r.field en).2.m ≤ r.m - 1 := by
  unfold Rd.field
  simp only
  have a : (if r.is tRepeated = true then r.take en tRepeated else r).m ≤ r.m := by
    split
    · have := Rd.m_take en r tRepeated; omega
    · exact Nat.le_refl _
  generalize (if r.is tRepeated = true then r.take en tRepeated else r) = r1 at *
  have b := Rd.m_typ en r1
  have c := Rd.m_name en (r1.typ en).2
  have d := Rd.m_take en ((r1.typ en).2.name en) [61]
  have e := Rd.m_number en (((r1.typ en).2.name en).take en [61])
  have f := Rd.m_take en ((((r1.typ en).2.name en).take en [61]).number en) [59]
  omega
theorem Rd.m_value (r : Rd) : (r.value en).2.m ≤ r.m - 1 := by
  unfold Rd.value
  simp only
  have c := Rd.m_name en r
  have d := Rd.m_take en (r.name en) [61]
  have e := Rd.m_number en ((r.name en).take en [61])
  have f := Rd.m_take en (((r.name en).take en [61]).number en) [59]
  omega
theorem Rd.m_method (r : Rd) : (r.method en).2.m ≤ r.m - 1 := by
  unfold Rd.method
  simp only
  have a := Rd.m_take en r tRpc
  have b := Rd.m_name en (r.take en tRpc)
  have c := Rd.m_take en ((r.take en tRpc).name en) [40]
  have d := Rd.m_path en (((r.take en tRpc).name en).take en [40])
  generalize (((r.take en tRpc).name en).take en [40]).path en = p at *
  have e := Rd.m_take en p.2 [41]
  have f := Rd.m_take en (p.2.take en [41]) tReturns
  have g := Rd.m_take en ((p.2.take en [41]).take en tReturns) [40]
  have h := Rd.m_path en (((p.2.take en [41]).take en tReturns).take en [40])
  generalize (((p.2.take en [41]).take en tReturns).take en [40]).path en = q at *
  have i := Rd.m_take en q.2 [41]
  have j := Rd.m_take en (q.2.take en [41]) [59]
  omega
theorem valuesL_m : ∀ (f : Nat) (r : Rd) (acc : List Vl), (valuesL en f r acc).2.m ≤ r.m
  | 0, r, acc => Nat.le_refl _
  | f + 1, r, acc => by
    unfold valuesL
    split
    · refine Nat.le_trans (valuesL_m f _ _) ?_
      have := Rd.m_value en r; omega
    · exact Nat.le_refl _
theorem methodsL_m : ∀ (f : Nat) (r : Rd) (acc : List Mt), (methodsL en f r acc).2.m ≤ r.m
  | 0, r, acc => Nat.le_refl _
  | f + 1, r, acc => by
    unfold methodsL
    split
    · refine Nat.le_trans (methodsL_m f _ _) ?_
      have := Rd.m_method en r; omega
    · exact Nat.le_refl _
theorem Rd.m_enum (r : Rd) : (r.enum en).2.m ≤ r.m - 1 := by
  unfold Rd.enum
  simp only
  have a := Rd.m_take en r tEnum
  have b := Rd.m_name en (r.take en tEnum)
  have c := Rd.m_take en ((r.take en tEnum).name en) [123]
  have d := valuesL_m en ((((r.take en tEnum).name en).take en [123]).l.length + 1) (((r.take en tEnum).name en).take en [123]) []
  have e := Rd.m_take en (valuesL en ((((r.take en tEnum).name en).take en [123]).l.length + 1) (((r.take en tEnum).name en).take en [123]) []).2 [125]
  omega
theorem Rd.m_service (r : Rd) : (r.service en).2.m ≤ r.m - 1 := by
  unfold Rd.service
  simp only
  have a := Rd.m_take en r tService
  have b := Rd.m_name en (r.take en tService)
  have c := Rd.m_take en ((r.take en tService).name en) [123]
  have d := methodsL_m en ((((r.take en tService).name en).take en [123]).l.length + 1) (((r.take en tService).name en).take en [123]) []
  have e := Rd.m_take en (methodsL en ((((r.take en tService).name en).take en [123]).l.length + 1) (((r.take en tService).name en).take en [123]) []).2 [125]
  omega
theorem bodyL_m (msg : Rd → Dc × Rd) (hm : ∀ r, (msg r).2.m ≤ r.m) : ∀ (f : Nat) (r : Rd) (fs : List Fd) (ds : List Dc), (bodyL en msg f r fs ds).2.m ≤ r.m
  | 0, r, fs, ds => Nat.le_refl _
  | f + 1, r, fs, ds => by
    unfold bodyL
    split
    · split
      · exact Nat.le_trans (bodyL_m msg hm f _ _ _) (hm r)
      · split
        · refine Nat.le_trans (bodyL_m msg hm f _ _ _) ?_
          have := Rd.m_enum en r; omega
        · refine Nat.le_trans (bodyL_m msg hm f _ _ _) ?_
          have := Rd.m_field en r; omega
    · exact Nat.le_refl _
theorem messageL_m : ∀ (k depth : Nat) (r : Rd), (messageL en (k + 1) depth r).2.m ≤ r.m - 1
  | k, depth, r => by
    have hm : ∀ r, (messageL en k (depth + 1) r).2.m ≤ r.m := fun r => by
      cases k with
      | zero => exact Nat.le_refl _
      | succ k => have := messageL_m k (depth + 1) r; omega
    unfold messageL
    simp only
    have z : (if 8 < depth then r.fail 8 (r.here en) else r).m ≤ r.m := by
      split
      · exact Rd.m_fail_le r 8 _ (by decide)
      · exact Nat.le_refl _
    generalize (if 8 < depth then r.fail 8 (r.here en) else r) = r0 at *
    have a := Rd.m_take en r0 tMessage
    have b := Rd.m_name en (r0.take en tMessage)
    have c := Rd.m_take en ((r0.take en tMessage).name en) [123]
    have d := bodyL_m en (messageL en k (depth + 1)) hm ((((r0.take en tMessage).name en).take en [123]).l.length + 1) (((r0.take en tMessage).name en).take en [123]) [] []
    have e := Rd.m_take en (bodyL en (messageL en k (depth + 1)) ((((r0.take en tMessage).name en).take en [123]).l.length + 1) (((r0.take en tMessage).name en).take en [123]) [] []).2 [125]
    omega
end
end Go.Proofs.YtngmimbpakmkiaaGreatDoor
namespace Go.Proofs.YtngmimbpakmkiaaGreatDoor
set_option linter.unusedVariables false

/-- so many, and so deep, that slices of them can be made -/
def FitD : Nat → List Dc → Prop
  | 0, ds => True
  | f + 1, ds => ds.length ≤ 100000 ∧ ∀ d ∈ ds, d.fields.length ≤ 100000 ∧ d.values.length ≤ 100000 ∧ d.methods.length ≤ 100000 ∧ FitD f d.inner
/-- one that fits, however deep -/
def FitOne (d : Dc) : Prop := d.fields.length ≤ 100000 ∧ d.values.length ≤ 100000 ∧ d.methods.length ≤ 100000 ∧ ∀ f, FitD f d.inner
theorem fitD_of {ds : List Dc} (hl : ds.length ≤ 100000) (h : ∀ d ∈ ds, FitOne d) : ∀ f, FitD f ds
  | 0 => trivial
  | f + 1 => ⟨hl, fun d hd => ⟨(h d hd).1, (h d hd).2.1, (h d hd).2.2.1, (h d hd).2.2.2 f⟩⟩
theorem Rd.l_tail (r : Rd) : r.tail.l.length ≤ r.l.length := by unfold Rd.tail; simp
theorem Rd.l_fail (r : Rd) (e : Int) (p : Int × Int) : (r.fail e p).l.length ≤ r.l.length := by
  unfold Rd.fail; split <;> exact Nat.le_refl _
section
variable (en : Int × Int)
theorem Rd.l_take (r : Rd) (t : List UInt8) : (r.take en t).l.length ≤ r.l.length := by
  unfold Rd.take
  split
  · exact r.l_tail
  · exact r.l_fail _ _
theorem Rd.l_name (r : Rd) : (r.name en).l.length ≤ r.l.length := by
  unfold Rd.name
  split
  · exact r.l_tail
  · exact r.l_fail _ _
theorem Rd.l_number (r : Rd) : (r.number en).l.length ≤ r.l.length := by
  unfold Rd.number
  split
  · exact r.l_tail
  · exact r.l_fail _ _
theorem pathL_l (first : Int × Int) : ∀ (f n : Nat) (s : List UInt8) (r : Rd), (pathL en first f n s r).2.l.length ≤ r.l.length
  | 0, n, s, r => Nat.le_refl _
  | f + 1, n, s, r => by
    unfold pathL
    split
    · refine Nat.le_trans (pathL_l first f _ _ _) ?_
      have h1 := Rd.l_take en r [46]
      have h2 := Rd.l_name en (r.take en [46])
      split
      · have := Rd.l_fail ((r.take en [46]).name en) 8 first; omega
      · omega
    · exact Nat.le_refl _
theorem Rd.l_path (r : Rd) : (r.path en).2.l.length ≤ r.l.length := Nat.le_trans (pathL_l en _ _ _ _ _) (Rd.l_name en r)
theorem Rd.l_typ (r : Rd) : (r.typ en).2.l.length ≤ r.l.length := by
  unfold Rd.typ
  split
  · exact r.l_tail
  · exact Rd.l_path en r
theorem Rd.l_field (r : Rd) : (r.field en).2.l.length ≤ r.l.length := by
  unfold Rd.field
  simp only
  have a : (if r.is tRepeated = true then r.take en tRepeated else r).l.length ≤ r.l.length := by
    split
    · exact Rd.l_take en r _
    · exact Nat.le_refl _
  generalize (if r.is tRepeated = true then r.take en tRepeated else r) = r1 at *
  have b := Rd.l_typ en r1
  have c := Rd.l_name en (r1.typ en).2
  have d := Rd.l_take en ((r1.typ en).2.name en) [61]
  have e := Rd.l_number en (((r1.typ en).2.name en).take en [61])
  have f := Rd.l_take en ((((r1.typ en).2.name en).take en [61]).number en) [59]
  omega
theorem Rd.l_value (r : Rd) : (r.value en).2.l.length ≤ r.l.length := by
  unfold Rd.value
  simp only
  have c := Rd.l_name en r
  have d := Rd.l_take en (r.name en) [61]
  have e := Rd.l_number en ((r.name en).take en [61])
  have f := Rd.l_take en (((r.name en).take en [61]).number en) [59]
  omega
theorem Rd.l_method (r : Rd) : (r.method en).2.l.length ≤ r.l.length := by
  unfold Rd.method
  simp only
  have a := Rd.l_take en r tRpc
  have b := Rd.l_name en (r.take en tRpc)
  have c := Rd.l_take en ((r.take en tRpc).name en) [40]
  have d := Rd.l_path en (((r.take en tRpc).name en).take en [40])
  generalize (((r.take en tRpc).name en).take en [40]).path en = p at *
  have e := Rd.l_take en p.2 [41]
  have f := Rd.l_take en (p.2.take en [41]) tReturns
  have g := Rd.l_take en ((p.2.take en [41]).take en tReturns) [40]
  have h := Rd.l_path en (((p.2.take en [41]).take en tReturns).take en [40])
  generalize (((p.2.take en [41]).take en tReturns).take en [40]).path en = q at *
  have i := Rd.l_take en q.2 [41]
  have j := Rd.l_take en (q.2.take en [41]) [59]
  omega
theorem valuesL_l : ∀ (f : Nat) (r : Rd) (acc : List Vl), (valuesL en f r acc).2.l.length ≤ r.l.length ∧ (valuesL en f r acc).1.length ≤ acc.length + f
  | 0, r, acc => ⟨Nat.le_refl _, Nat.le_refl _⟩
  | f + 1, r, acc => by
    unfold valuesL
    split
    · have ih := valuesL_l f (r.value en).2 (acc ++ [(r.value en).1])
      have := Rd.l_value en r
      rw [List.length_append] at ih
      have e1 : [(r.value en).1].length = 1 := rfl
      omega
    · exact ⟨Nat.le_refl _, by simp⟩
theorem methodsL_l : ∀ (f : Nat) (r : Rd) (acc : List Mt), (methodsL en f r acc).2.l.length ≤ r.l.length ∧ (methodsL en f r acc).1.length ≤ acc.length + f
  | 0, r, acc => ⟨Nat.le_refl _, Nat.le_refl _⟩
  | f + 1, r, acc => by
    unfold methodsL
    split
    · have ih := methodsL_l f (r.method en).2 (acc ++ [(r.method en).1])
      have := Rd.l_method en r
      rw [List.length_append] at ih
      have e1 : [(r.method en).1].length = 1 := rfl
      omega
    · exact ⟨Nat.le_refl _, by simp⟩
theorem enum_fit (r : Rd) (h : r.l.length ≤ 4000) : FitOne (r.enum en).1 ∧ (r.enum en).2.l.length ≤ r.l.length := by
  unfold Rd.enum
  simp only
  have a := Rd.l_take en r tEnum
  have b := Rd.l_name en (r.take en tEnum)
  have c := Rd.l_take en ((r.take en tEnum).name en) [123]
  generalize ((r.take en tEnum).name en).take en [123] = r3 at *
  have d := valuesL_l en (r3.l.length + 1) r3 []
  have e := Rd.l_take en (valuesL en (r3.l.length + 1) r3 []).2 [125]
  have e0 : ([] : List Vl).length = 0 := rfl
  refine ⟨⟨by simp, ?_, by simp, fitD_of (by simp) (by simp)⟩, by omega⟩
  show (valuesL en (r3.l.length + 1) r3 []).1.length ≤ 100000
  omega
theorem service_fit (r : Rd) (h : r.l.length ≤ 4000) : FitOne (r.service en).1 ∧ (r.service en).2.l.length ≤ r.l.length := by
  unfold Rd.service
  simp only
  have a := Rd.l_take en r tService
  have b := Rd.l_name en (r.take en tService)
  have c := Rd.l_take en ((r.take en tService).name en) [123]
  generalize ((r.take en tService).name en).take en [123] = r3 at *
  have d := methodsL_l en (r3.l.length + 1) r3 []
  have e := Rd.l_take en (methodsL en (r3.l.length + 1) r3 []).2 [125]
  have e0 : ([] : List Mt).length = 0 := rfl
  refine ⟨⟨by simp, by simp, ?_, fitD_of (by simp) (by simp)⟩, by omega⟩
  show (methodsL en (r3.l.length + 1) r3 []).1.length ≤ 100000
  omega
theorem bodyL_fit (msg : Rd → Dc × Rd) (hm : ∀ r, r.l.length ≤ 4000 → FitOne (msg r).1 ∧ (msg r).2.l.length ≤ r.l.length) : ∀ (f : Nat) (r : Rd) (fs : List Fd) (ds : List Dc), r.l.length ≤ 4000 → (∀ d ∈ ds, FitOne d) →
    (∀ d ∈ (bodyL en msg f r fs ds).1.2, FitOne d) ∧ (bodyL en msg f r fs ds).1.1.length ≤ fs.length + f ∧ (bodyL en msg f r fs ds).1.2.length ≤ ds.length + f ∧ (bodyL en msg f r fs ds).2.l.length ≤ r.l.length
  | 0, r, fs, ds, hr, hd => ⟨hd, Nat.le_refl _, Nat.le_refl _, Nat.le_refl _⟩
  | f + 1, r, fs, ds, hr, hd => by
    have app : ∀ x, FitOne x → ∀ d ∈ ds ++ [x], FitOne d := fun x hx d hdd => by
      rcases List.mem_append.1 hdd with h | h
      · exact hd d h
      · rw [List.mem_singleton.1 h]; exact hx
    unfold bodyL
    split
    · split
      · obtain ⟨h1, h2⟩ := hm r hr
        have ih := bodyL_fit msg hm f (msg r).2 fs (ds ++ [(msg r).1]) (by omega) (app _ h1)
        rw [List.length_append] at ih
        have e1 : [(msg r).1].length = 1 := rfl
        exact ⟨ih.1, by omega, by omega, by omega⟩
      · split
        · obtain ⟨h1, h2⟩ := enum_fit en r hr
          have ih := bodyL_fit msg hm f (r.enum en).2 fs (ds ++ [(r.enum en).1]) (by omega) (app _ h1)
          rw [List.length_append] at ih
          have e1 : [(r.enum en).1].length = 1 := rfl
          exact ⟨ih.1, by omega, by omega, by omega⟩
        · have h2 := Rd.l_field en r
          have ih := bodyL_fit msg hm f (r.field en).2 (fs ++ [(r.field en).1]) ds (by omega) hd
          rw [List.length_append] at ih
          have e1 : [(r.field en).1].length = 1 := rfl
          exact ⟨ih.1, by omega, by omega, by omega⟩
    · exact ⟨hd, by simp only; omega, by simp only; omega, Nat.le_refl _⟩
theorem messageL_fit : ∀ (k depth : Nat) (r : Rd), r.l.length ≤ 4000 → FitOne (messageL en k depth r).1 ∧ (messageL en k depth r).2.l.length ≤ r.l.length
  | 0, depth, r, h => ⟨⟨by simp [messageL], by simp [messageL], by simp [messageL], fitD_of (by simp [messageL]) (by simp [messageL])⟩, Nat.le_refl _⟩
  | k + 1, depth, r, h => by
    unfold messageL
    simp only
    have z : (if 8 < depth then r.fail 8 (r.here en) else r).l.length ≤ r.l.length := by
      split
      · exact r.l_fail _ _
      · exact Nat.le_refl _
    generalize (if 8 < depth then r.fail 8 (r.here en) else r) = r0 at *
    have a := Rd.l_take en r0 tMessage
    have b := Rd.l_name en (r0.take en tMessage)
    have c := Rd.l_take en ((r0.take en tMessage).name en) [123]
    generalize ((r0.take en tMessage).name en).take en [123] = r3 at *
    have d := bodyL_fit en (messageL en k (depth + 1)) (fun q hq => messageL_fit k (depth + 1) q hq) (r3.l.length + 1) r3 [] [] (by omega) (by simp)
    have e := Rd.l_take en (bodyL en (messageL en k (depth + 1)) (r3.l.length + 1) r3 [] []).2 [125]
    have e0 : ([] : List Fd).length = 0 := rfl
    have e1 : ([] : List Dc).length = 0 := rfl
    obtain ⟨d1, d2, d3, d4⟩ := d
    refine ⟨⟨?_, by simp, by simp, fitD_of ?_ d1⟩, by omega⟩
    · show (bodyL en (messageL en k (depth + 1)) (r3.l.length + 1) r3 [] []).1.1.length ≤ 100000; omega
    · show (bodyL en (messageL en k (depth + 1)) (r3.l.length + 1) r3 [] []).1.2.length ≤ 100000; omega
theorem declsL_fit : ∀ (f : Nat) (r : Rd) (ds : List Dc), r.l.length ≤ 4000 → (∀ d ∈ ds, FitOne d) → (∀ d ∈ (declsL en f r ds).1, FitOne d) ∧ (declsL en f r ds).1.length ≤ ds.length + f
  | 0, r, ds, hr, hd => ⟨hd, Nat.le_refl _⟩
  | f + 1, r, ds, hr, hd => by
    have app : ∀ x, FitOne x → ∀ d ∈ ds ++ [x], FitOne d := fun x hx d hdd => by
      rcases List.mem_append.1 hdd with h | h
      · exact hd d h
      · rw [List.mem_singleton.1 h]; exact hx
    unfold declsL
    split
    · split
      · obtain ⟨h1, h2⟩ := messageL_fit en (10 - 1) 1 r hr
        have ih := declsL_fit f (r.message en 1).2 (ds ++ [(r.message en 1).1]) (Nat.le_trans h2 hr) (app _ h1)
        rw [List.length_append] at ih
        have e1 : [(r.message en 1).1].length = 1 := rfl
        exact ⟨ih.1, by omega⟩
      · split
        · obtain ⟨h1, h2⟩ := enum_fit en r hr
          have ih := declsL_fit f (r.enum en).2 (ds ++ [(r.enum en).1]) (by omega) (app _ h1)
          rw [List.length_append] at ih
          have e1 : [(r.enum en).1].length = 1 := rfl
          exact ⟨ih.1, by omega⟩
        · split
          · obtain ⟨h1, h2⟩ := service_fit en r hr
            have ih := declsL_fit f (r.service en).2 (ds ++ [(r.service en).1]) (by omega) (app _ h1)
            rw [List.length_append] at ih
            have e1 : [(r.service en).1].length = 1 := rfl
            exact ⟨ih.1, by omega⟩
          · have h2 := r.l_fail 7 (r.here en)
            have ih := declsL_fit f (r.fail 7 (r.here en)) ds (by omega) hd
            exact ⟨ih.1, by omega⟩
    · exact ⟨hd, by simp only; omega⟩
theorem fileW_fit (ws : List Wd) (h : ws.length ≤ 4000) : ∀ f, FitD f (fileW en ws).1 := by
  unfold fileW
  simp only
  have d := declsL_fit en (ws.length + 1) ⟨ws, 0, 0, 0⟩ [] h (by simp)
  have e0 : ([] : List Dc).length = 0 := rfl
  split
  · exact fitD_of (by show (declsL en (ws.length + 1) ⟨ws, 0, 0, 0⟩ []).1.length ≤ 100000; omega) d.1
  · exact fitD_of (by simp) (by simp)
end
theorem fileL_fit (l : List UInt8) (h : (wordsL l).1.length ≤ 4000) : ∀ f, FitD f (fileL l).1 := by
  unfold fileL
  split
  · exact fileW_fit _ _ h
  · exact fitD_of (by simp) (by simp)
end Go.Proofs.YtngmimbpakmkiaaGreatDoor
namespace Go.Proofs.YtngmimbpakmkiaaGreatDoor
set_option linter.unusedVariables false
open Go.RowKit

def frow (x : Fd) : List Value := [.bool x.rep, .string (mkB x.type), .string (mkB x.name), .int .i64 x.num, .int .i64 x.line, .int .i64 x.col]
def vrow (x : Vl) : List Value := [.string (mkB x.name), .int .i64 x.num, .int .i64 x.line, .int .i64 x.col]
def mrow (x : Mt) : List Value := [.string (mkB x.name), .string (mkB x.inp), .string (mkB x.out), .int .i64 x.line, .int .i64 x.col]
def drow (d : Dc) (fs vs ms ins : Value) : List Value := [.int .i64 d.kind, .string (mkB d.name), .int .i64 d.line, .int .i64 d.col, fs, vs, ms, ins]
/-- a slice's elements lie in memory, in a block of S -/
def RowsIn {α : Type} (w : World) (S : Nat → Prop) (k : Nat) (row : α → List Value) (v : Value) (xs : List α) : Prop :=
  ∃ ad c, v = .slice ad xs.length c ∧ xs.length ≤ c ∧ (xs = [] ∨ ∃ g o, ad = some ⟨g, o, none⟩ ∧ S g ∧ ∀ (j : Nat) (x : α), xs[j]? = some x → ∀ (i : Nat) (u : Value), (row x)[i]? = some u → w.cell? ⟨g, o + (j * k + i), none⟩ = some u)
theorem RowsIn.old {α : Type} {w w' : World} {S : Nat → Prop} {k : Nat} {row : α → List Value} {v : Value} {xs : List α} (h : RowsIn w S k row v xs) (hb : ∀ b, S b → w'.heap[b]? = w.heap[b]?) : RowsIn w' S k row v xs := by
  obtain ⟨ad, c, hv, hc, h⟩ := h
  refine ⟨ad, c, hv, hc, h.imp id ?_⟩
  rintro ⟨g, o, ha, hg, h⟩
  exact ⟨g, o, ha, hg, fun j x hj i u hu => by rw [World.cell?_of_block (hb g hg)]; exact h j x hj i u hu⟩
theorem RowsIn.more {α : Type} {w : World} {S S' : Nat → Prop} {k : Nat} {row : α → List Value} {v : Value} {xs : List α} (h : RowsIn w S k row v xs) (hb : ∀ b, S b → S' b) : RowsIn w S' k row v xs := by
  obtain ⟨ad, c, hv, hc, h⟩ := h
  refine ⟨ad, c, hv, hc, h.imp id ?_⟩
  rintro ⟨g, o, ha, hg, h⟩
  exact ⟨g, o, ha, hb g hg, h⟩
theorem RowsIn.nil {α : Type} (w : World) (S : Nat → Prop) (k : Nat) (row : α → List Value) (ad : Option Addr) (c : Nat) : RowsIn w S k row (.slice ad 0 c) ([] : List α) := ⟨ad, c, rfl, Nat.zero_le _, .inl rfl⟩
/-- declarations lie in memory, in blocks of S, at most so deep -/
def HeldD : Nat → World → (Nat → Prop) → Value → List Dc → Prop
  | 0, w, S, v, ds => ds = [] ∧ ∃ ad c, v = .slice ad 0 c
  | f + 1, w, S, v, ds => ∃ ad c, v = .slice ad ds.length c ∧ ds.length ≤ c ∧ (ds = [] ∨ ∃ g o, ad = some ⟨g, o, none⟩ ∧ S g ∧ ∀ (j : Nat) (d : Dc), ds[j]? = some d →
      ∃ fs vs ms ins, (∀ (i : Nat) (u : Value), (drow d fs vs ms ins)[i]? = some u → w.cell? ⟨g, o + (j * 8 + i), none⟩ = some u) ∧
        RowsIn w S 6 frow fs d.fields ∧ RowsIn w S 4 vrow vs d.values ∧ RowsIn w S 5 mrow ms d.methods ∧ HeldD f w S ins d.inner)
/-- what one declaration's slices lead to -/
def Kids (f : Nat) (w : World) (S : Nat → Prop) (fs vs ms ins : Value) (d : Dc) : Prop :=
  RowsIn w S 6 frow fs d.fields ∧ RowsIn w S 4 vrow vs d.values ∧ RowsIn w S 5 mrow ms d.methods ∧ HeldD f w S ins d.inner
theorem HeldD.old {w w' : World} {S : Nat → Prop} (hb : ∀ b, S b → w'.heap[b]? = w.heap[b]?) : ∀ {f : Nat} {v : Value} {ds : List Dc}, HeldD f w S v ds → HeldD f w' S v ds
  | 0, v, ds, h => h
  | f + 1, v, ds, h => by
    obtain ⟨ad, c, hv, hc, h⟩ := h
    refine ⟨ad, c, hv, hc, h.imp id ?_⟩
    rintro ⟨g, o, ha, hg, h⟩
    refine ⟨g, o, ha, hg, fun j d hj => ?_⟩
    obtain ⟨fs, vs, ms, ins, h0, h1, h2, h3, h4⟩ := h j d hj
    exact ⟨fs, vs, ms, ins, fun i u hu => by rw [World.cell?_of_block (hb g hg)]; exact h0 i u hu, h1.old hb, h2.old hb, h3.old hb, HeldD.old hb h4⟩
theorem HeldD.more {w : World} {S S' : Nat → Prop} (hb : ∀ b, S b → S' b) : ∀ {f : Nat} {v : Value} {ds : List Dc}, HeldD f w S v ds → HeldD f w S' v ds
  | 0, v, ds, h => h
  | f + 1, v, ds, h => by
    obtain ⟨ad, c, hv, hc, h⟩ := h
    refine ⟨ad, c, hv, hc, h.imp id ?_⟩
    rintro ⟨g, o, ha, hg, h⟩
    refine ⟨g, o, ha, hb g hg, fun j d hj => ?_⟩
    obtain ⟨fs, vs, ms, ins, h0, h1, h2, h3, h4⟩ := h j d hj
    exact ⟨fs, vs, ms, ins, h0, h1.more hb, h2.more hb, h3.more hb, HeldD.more hb h4⟩
theorem HeldD.nil (f : Nat) (w : World) (S : Nat → Prop) (ad : Option Addr) (c : Nat) : HeldD f w S (.slice ad 0 c) [] := by
  cases f with
  | zero => exact ⟨rfl, ad, c, rfl⟩
  | succ f => exact ⟨ad, c, rfl, Nat.zero_le _, .inl rfl⟩
theorem HeldD.up {w : World} {S : Nat → Prop} : ∀ {f : Nat} {v : Value} {ds : List Dc}, HeldD f w S v ds → HeldD (f + 1) w S v ds
  | 0, v, ds, ⟨h, ad, c, hv⟩ => by subst h; rw [hv]; exact HeldD.nil 1 w S ad c
  | f + 1, v, ds, h => by
    obtain ⟨ad, c, hv, hc, h⟩ := h
    refine ⟨ad, c, hv, hc, h.imp id ?_⟩
    rintro ⟨g, o, ha, hg, h⟩
    refine ⟨g, o, ha, hg, fun j d hj => ?_⟩
    obtain ⟨fs, vs, ms, ins, h0, h1, h2, h3, h4⟩ := h j d hj
    exact ⟨fs, vs, ms, ins, h0, h1, h2, h3, HeldD.up h4⟩
theorem Kids.old {f : Nat} {w w' : World} {S : Nat → Prop} {fs vs ms ins : Value} {d : Dc} (h : Kids f w S fs vs ms ins d) (hb : ∀ b, S b → w'.heap[b]? = w.heap[b]?) : Kids f w' S fs vs ms ins d :=
  ⟨h.1.old hb, h.2.1.old hb, h.2.2.1.old hb, HeldD.old hb h.2.2.2⟩
theorem Kids.more {f : Nat} {w : World} {S S' : Nat → Prop} {fs vs ms ins : Value} {d : Dc} (h : Kids f w S fs vs ms ins d) (hb : ∀ b, S b → S' b) : Kids f w S' fs vs ms ins d :=
  ⟨h.1.more hb, h.2.1.more hb, h.2.2.1.more hb, HeldD.more hb h.2.2.2⟩
theorem Kids.up {f : Nat} {w : World} {S : Nat → Prop} {fs vs ms ins : Value} {d : Dc} (h : Kids f w S fs vs ms ins d) : Kids (f + 1) w S fs vs ms ins d := ⟨h.1, h.2.1, h.2.2.1, h.2.2.2.up⟩
/-- elements of one size, one behind the other -/
theorem flat_at {α : Type} {k : Nat} {row : α → List Value} (hk : ∀ x, (row x).length = k) : ∀ (xs : List α) (j : Nat) (x : α) (i : Nat), i < k → xs[j]? = some x → (xs.flatMap row)[j * k + i]? = (row x)[i]?
  | [], j, x, i, hi, h => by simp at h
  | a :: t, 0, x, i, hi, h => by
    have : a = x := by simpa using h
    subst this
    rw [List.flatMap_cons, Nat.zero_mul, Nat.zero_add, List.getElem?_append_left (by rw [hk]; exact hi)]
  | a :: t, j + 1, x, i, hi, h => by
    rw [List.flatMap_cons, List.getElem?_append_right (by rw [hk, Nat.succ_mul]; omega), hk, show (j + 1) * k + i - k = j * k + i by rw [Nat.succ_mul]; omega]
    exact flat_at hk t j x i hi (by simpa using h)
/-- a slice that the call has made holds its elements -/
theorem rowsIn_own {α : Type} {w : World} {base : Nat} {E : TypeId} {k : Nat} {row : α → List Value} (hk : ∀ x, (row x).length = k) {v : Value} {xs : List α} (h : w.ownsRow base E k v xs.length (xs.flatMap row)) (S : Nat → Prop) (hS : ∀ b, v.ownBlock = some b → S b) : RowsIn w S k row v xs := by
  obtain ⟨hl, ⟨rfl, h0⟩ | ⟨g, cap, cur, rfl, hg, hh, h3, h4, h5, h6⟩⟩ := h
  · exact ⟨none, 0, by rw [h0], by omega, .inl (List.eq_nil_of_length_eq_zero h0)⟩
  · refine ⟨_, cap, rfl, h3, .inr ⟨g, 0, rfl, hS g rfl, fun j x hj i u hu => ?_⟩⟩
    have hi : i < k := by
      have := (List.getElem?_eq_some_iff.1 hu).1
      rw [hk] at this; exact this
    have e := flat_at hk xs j x i hi hj
    have hjl := (List.getElem?_eq_some_iff.1 hj).1
    have hb : j * k + i < xs.length * k := by
      have : (j + 1) * k ≤ xs.length * k := Nat.mul_le_mul_right k hjl
      rw [Nat.succ_mul] at this
      omega
    rw [← h6, List.getElem?_take, if_pos (by omega), hu] at e
    simp only [World.cell?, hh]
    rw [Nat.zero_add]
    simpa using e
end Go.Proofs.YtngmimbpakmkiaaGreatDoor
namespace Go.Proofs.YtngmimbpakmkiaaGreatDoor
set_option linter.unusedVariables false
open Go.ChangeShapes Go.WideShapes Go.ChangeAt Go.RowKit

theorem setCell_heap {w : World} {R j : Nat} {cs : Array Value} {t : TypeId} {fr : Nat × Nat} (h : w.heap[R]? = some (.cells cs t fr)) (x : Value) : (w.setCell ⟨R, j, none⟩ x).heap[R]? = some (.cells (cs.setIfInBounds j x) t fr) := by
  rw [setCell_eq_setRow _ _ _ _ _ _ _ h, setRow_heap w R _ _ _ _ h]
theorem alloc_heap_old (w : World) (o : Obj) (k : Nat) (h : k < w.heap.size) : (w.alloc o).heap[k]? = w.heap[k]? := Below.heap_alloc w o k h
theorem alloc_heap_new (w : World) (o : Obj) : (w.alloc o).heap[w.heap.size]? = some o := by
  show (w.heap.push o)[w.heap.size]? = _
  simp
theorem grownBy_set (w : World) (R j : Nat) (x : Value) : w.grownBy (w.setCell ⟨R, j, none⟩ x) (some R) :=
  have b := (Below.refl R w).setCell (p := ⟨R, j, none⟩) (Nat.le_refl _) x
  ⟨b.os, b.tape, b.output, b.size, fun k hk hne => Below.heap_setCell _ _ _ _ (fun e => hne (by rw [e]))⟩
theorem grownBy_drew (w : World) (row : Option Nat) : w.grownBy w.drew row := ⟨rfl, rfl, rfl, Nat.le_refl _, fun _ _ _ => rfl⟩
theorem grownBy_below {w w' : World} (h : Below w.heap.size w w') (row : Option Nat) : w.grownBy w' row := ⟨h.os, h.tape, h.output, h.size, fun k hk _ => h.block k hk⟩
theorem grow_then {a b c : World} {row row' : Option Nat} (h : a.grownBy b row) (k : b.grownBy c row') (hr : ∀ j, row' = some j → a.heap.size ≤ j ∨ row = some j) : a.grownBy c row :=
  ⟨k.os.trans h.os, k.tape.trans h.tape, k.output.trans h.output, Nat.le_trans h.size k.size, fun i hi hne => (k.block i (Nat.lt_of_lt_of_le hi h.size) (fun e => by
    rcases hr i e.symm with h1 | h1
    · omega
    · exact hne h1.symm)).trans (h.block i hi hne)⟩

/-- words lie in memory, from a place of a block below R -/
def WordsAt (w : World) (R : Nat) (ad : Option Addr) (l : List Wd) : Prop :=
  l = [] ∨ ∃ g o, ad = some ⟨g, o, none⟩ ∧ g < R ∧ ∀ (j : Nat) (x : Wd), l[j]? = some x → w.cell? ⟨g, o + j * 4, none⟩ = some (.int .i64 x.kind) ∧ w.cell? ⟨g, o + (j * 4 + 1), none⟩ = some (.string (mkB x.text)) ∧
    w.cell? ⟨g, o + (j * 4 + 2), none⟩ = some (.int .i64 (x.line : Int)) ∧ w.cell? ⟨g, o + (j * 4 + 3), none⟩ = some (.int .i64 (x.col : Int))
/-- what every word is -/
def GoodW (x : Wd) : Prop := x.text.length ≤ 20000 ∧ (x.kind = 2 → x.text.all isDig = true ∧ x.text.length ≤ 10)
theorem WordsAt.old {w w' : World} {R : Nat} {ad : Option Addr} {l : List Wd} (h : WordsAt w R ad l) (hb : ∀ k, k < R → w'.heap[k]? = w.heap[k]?) : WordsAt w' R ad l := by
  rcases h with h | ⟨g, o, rfl, hg, h⟩
  · exact .inl h
  · refine .inr ⟨g, o, rfl, hg, fun j x hj => ?_⟩
    obtain ⟨h1, h2, h3, h4⟩ := h j x hj
    have e := hb g hg
    exact ⟨by rw [World.cell?_of_block e]; exact h1, by rw [World.cell?_of_block e]; exact h2, by rw [World.cell?_of_block e]; exact h3, by rw [World.cell?_of_block e]; exact h4⟩
/-- the first word's cells -/
theorem WordsAt.head {w : World} {R : Nat} {ad : Option Addr} {x : Wd} {t : List Wd} (h : WordsAt w R ad (x :: t)) : ∃ g o, ad = some ⟨g, o, none⟩ ∧ g < R ∧ w.cell? ⟨g, o, none⟩ = some (.int .i64 x.kind) ∧ w.cell? ⟨g, o + 1, none⟩ = some (.string (mkB x.text)) ∧
    w.cell? ⟨g, o + 2, none⟩ = some (.int .i64 (x.line : Int)) ∧ w.cell? ⟨g, o + 3, none⟩ = some (.int .i64 (x.col : Int)) := by
  rcases h with h | ⟨g, o, rfl, hg, h⟩
  · cases h
  · have := h 0 x rfl
    exact ⟨g, o, rfl, hg, this⟩
/-- the words behind the first one -/
theorem WordsAt.tail {w : World} {R : Nat} {ad : Option Addr} {x : Wd} {t : List Wd} (h : WordsAt w R ad (x :: t)) {g o : Nat} (ha : ad = some ⟨g, o, none⟩) (ad' : Option Addr) (hd : t = [] ∨ ad' = some ⟨g, o + 4, none⟩) : WordsAt w R ad' t := by
  rcases hd with hd | hd
  · exact .inl hd
  · rcases h with h | ⟨g', o', ha', hg, h⟩
    · cases h
    · rw [ha] at ha'
      simp only [Option.some.injEq, Addr.mk.injEq] at ha'
      obtain ⟨rfl, rfl, _⟩ := ha'
      refine .inr ⟨g, o + 4, hd, hg, fun j y hj => ?_⟩
      have := h (j + 1) y (by simpa using hj)
      rw [show o + (j + 1) * 4 = o + 4 + j * 4 by omega, show o + ((j + 1) * 4 + 1) = o + 4 + (j * 4 + 1) by omega, show o + ((j + 1) * 4 + 2) = o + 4 + (j * 4 + 2) by omega, show o + ((j + 1) * 4 + 3) = o + 4 + (j * 4 + 3) by omega] at this
      exact this
theorem Rd.is_head {r : Rd} {t : List UInt8} (h : r.is t = true) : ∃ y l, r.l = y :: l := by
  have := (Rd.is_ok h).2.1
  cases hl : r.l with
  | nil => exact absurd hl this
  | cons y l => exact ⟨y, l, rfl⟩
theorem Rd.name_head {r : Rd} (h : r.isName = true) : ∃ y l, r.l = y :: l ∧ r.e = 0 ∧ y.kind = 1 ∧ resOf y.text = false := by
  unfold Rd.isName at h
  cases hl : r.l with
  | nil => rw [hl] at h; simp at h
  | cons y l =>
    rw [hl] at h
    simp only [Bool.and_eq_true, decide_eq_true_iff, Bool.not_eq_true'] at h
    exact ⟨y, l, rfl, h.1, h.2.1, h.2.2⟩
/-- the answer is told -/
theorem set6 {w : World} {B : Nat} {T : TypeId} {z0 z1 z2 z3 z4 z5 : Value} (h : w.heap[B]? = some (.cells #[z0, z1, z2, z3, z4, z5] T (0, 0))) (x0 x1 x2 x3 x4 x5 : Value) :
    ((((((w.setCell ⟨B, 0, none⟩ x0).setCell ⟨B, 1, none⟩ x1).setCell ⟨B, 2, none⟩ x2).setCell ⟨B, 3, none⟩ x3).setCell ⟨B, 4, none⟩ x4).setCell ⟨B, 5, none⟩ x5).heap[B]? = some (.cells #[x0, x1, x2, x3, x4, x5] T (0, 0)) := by
  have h1 : (w.setCell ⟨B, 0, none⟩ x0).heap[B]? = some (.cells #[x0, z1, z2, z3, z4, z5] T (0, 0)) := setCell_heap h _
  have h2 : ((w.setCell ⟨B, 0, none⟩ x0).setCell ⟨B, 1, none⟩ x1).heap[B]? = some (.cells #[x0, x1, z2, z3, z4, z5] T (0, 0)) := setCell_heap h1 _
  have h3 : (((w.setCell ⟨B, 0, none⟩ x0).setCell ⟨B, 1, none⟩ x1).setCell ⟨B, 2, none⟩ x2).heap[B]? = some (.cells #[x0, x1, x2, z3, z4, z5] T (0, 0)) := setCell_heap h2 _
  have h4 : ((((w.setCell ⟨B, 0, none⟩ x0).setCell ⟨B, 1, none⟩ x1).setCell ⟨B, 2, none⟩ x2).setCell ⟨B, 3, none⟩ x3).heap[B]? = some (.cells #[x0, x1, x2, x3, z4, z5] T (0, 0)) := setCell_heap h3 _
  have h5 : (((((w.setCell ⟨B, 0, none⟩ x0).setCell ⟨B, 1, none⟩ x1).setCell ⟨B, 2, none⟩ x2).setCell ⟨B, 3, none⟩ x3).setCell ⟨B, 4, none⟩ x4).heap[B]? = some (.cells #[x0, x1, x2, x3, x4, z5] T (0, 0)) := setCell_heap h4 _
  have h6 : ((((((w.setCell ⟨B, 0, none⟩ x0).setCell ⟨B, 1, none⟩ x1).setCell ⟨B, 2, none⟩ x2).setCell ⟨B, 3, none⟩ x3).setCell ⟨B, 4, none⟩ x4).setCell ⟨B, 5, none⟩ x5).heap[B]? = some (.cells #[x0, x1, x2, x3, x4, x5] T (0, 0)) := setCell_heap h5 _
  exact h6
theorem set8 {w : World} {B : Nat} {T : TypeId} {z0 z1 z2 z3 z4 z5 z6 z7 : Value} (h : w.heap[B]? = some (.cells #[z0, z1, z2, z3, z4, z5, z6, z7] T (0, 0))) (x0 x1 x2 x3 x4 x5 x6 x7 : Value) :
    ((((((((w.setCell ⟨B, 0, none⟩ x0).setCell ⟨B, 1, none⟩ x1).setCell ⟨B, 2, none⟩ x2).setCell ⟨B, 3, none⟩ x3).setCell ⟨B, 4, none⟩ x4).setCell ⟨B, 5, none⟩ x5).setCell ⟨B, 6, none⟩ x6).setCell ⟨B, 7, none⟩ x7).heap[B]? = some (.cells #[x0, x1, x2, x3, x4, x5, x6, x7] T (0, 0)) := by
  have h1 : (w.setCell ⟨B, 0, none⟩ x0).heap[B]? = some (.cells #[x0, z1, z2, z3, z4, z5, z6, z7] T (0, 0)) := setCell_heap h _
  have h2 : ((w.setCell ⟨B, 0, none⟩ x0).setCell ⟨B, 1, none⟩ x1).heap[B]? = some (.cells #[x0, x1, z2, z3, z4, z5, z6, z7] T (0, 0)) := setCell_heap h1 _
  have h3 : (((w.setCell ⟨B, 0, none⟩ x0).setCell ⟨B, 1, none⟩ x1).setCell ⟨B, 2, none⟩ x2).heap[B]? = some (.cells #[x0, x1, x2, z3, z4, z5, z6, z7] T (0, 0)) := setCell_heap h2 _
  have h4 : ((((w.setCell ⟨B, 0, none⟩ x0).setCell ⟨B, 1, none⟩ x1).setCell ⟨B, 2, none⟩ x2).setCell ⟨B, 3, none⟩ x3).heap[B]? = some (.cells #[x0, x1, x2, x3, z4, z5, z6, z7] T (0, 0)) := setCell_heap h3 _
  have h5 : (((((w.setCell ⟨B, 0, none⟩ x0).setCell ⟨B, 1, none⟩ x1).setCell ⟨B, 2, none⟩ x2).setCell ⟨B, 3, none⟩ x3).setCell ⟨B, 4, none⟩ x4).heap[B]? = some (.cells #[x0, x1, x2, x3, x4, z5, z6, z7] T (0, 0)) := setCell_heap h4 _
  have h6 : ((((((w.setCell ⟨B, 0, none⟩ x0).setCell ⟨B, 1, none⟩ x1).setCell ⟨B, 2, none⟩ x2).setCell ⟨B, 3, none⟩ x3).setCell ⟨B, 4, none⟩ x4).setCell ⟨B, 5, none⟩ x5).heap[B]? = some (.cells #[x0, x1, x2, x3, x4, x5, z6, z7] T (0, 0)) := setCell_heap h5 _
  have h7 : (((((((w.setCell ⟨B, 0, none⟩ x0).setCell ⟨B, 1, none⟩ x1).setCell ⟨B, 2, none⟩ x2).setCell ⟨B, 3, none⟩ x3).setCell ⟨B, 4, none⟩ x4).setCell ⟨B, 5, none⟩ x5).setCell ⟨B, 6, none⟩ x6).heap[B]? = some (.cells #[x0, x1, x2, x3, x4, x5, x6, z7] T (0, 0)) := setCell_heap h6 _
  have h8 : ((((((((w.setCell ⟨B, 0, none⟩ x0).setCell ⟨B, 1, none⟩ x1).setCell ⟨B, 2, none⟩ x2).setCell ⟨B, 3, none⟩ x3).setCell ⟨B, 4, none⟩ x4).setCell ⟨B, 5, none⟩ x5).setCell ⟨B, 6, none⟩ x6).setCell ⟨B, 7, none⟩ x7).heap[B]? = some (.cells #[x0, x1, x2, x3, x4, x5, x6, x7] T (0, 0)) := setCell_heap h7 _
  exact h8
theorem own_block {w : World} {base : Nat} {E : TypeId} {k n : Nat} {v : Value} {xs : List Value} (h : w.ownsRow base E k v n xs) : ∀ b, v.ownBlock = some b → base ≤ b ∧ b < w.heap.size := by
  intro b hb
  obtain ⟨_, ⟨rfl, _⟩ | ⟨g, cap, cur, rfl, hg, hh, _⟩⟩ := h
  · simp [Value.ownBlock] at hb
  · simp [Value.ownBlock] at hb
    have := (Array.getElem?_eq_some_iff.1 hh).1
    omega
theorem own_slice {w : World} {base : Nat} {E : TypeId} {k n : Nat} {v : Value} {xs : List Value} (h : w.ownsRow base E k v n xs) : ∃ a c, v = .slice a n c := by
  obtain ⟨_, ⟨rfl, h0⟩ | ⟨g, cap, cur, rfl, _⟩⟩ := h
  · exact ⟨none, 0, by rw [h0]⟩
  · exact ⟨_, _, rfl⟩
theorem own_keep {w w' : World} {base : Nat} {E : TypeId} {k n : Nat} {v : Value} {xs : List Value} (h : w.ownsRow base E k v n xs) (hh : ∀ b, v.ownBlock = some b → w'.heap[b]? = w.heap[b]?) : w'.ownsRow base E k v n xs := by
  obtain ⟨h1, h2 | ⟨g, cap, cur, hv, hg, hhp, r⟩⟩ := h
  · exact ⟨h1, .inl h2⟩
  · exact ⟨h1, .inr ⟨g, cap, cur, hv, hg, by rw [hh g (by rw [hv]; rfl)]; exact hhp, r⟩⟩
abbrev z8 : Array Value := #[.int .i64 0, .string ⟨#[]⟩, .int .i64 0, .int .i64 0, .slice none 0 0, .slice none 0 0, .slice none 0 0, .slice none 0 0]
theorem valuesL_stop (en : Int × Int) (f : Nat) (r : Rd) (acc : List Vl) (h : ¬ (r.e = 0 ∧ r.is [125] = false)) : valuesL en f r acc = (acc, r) := by
  cases f with
  | zero => rfl
  | succ f => rw [valuesL, if_neg h]
theorem valuesL_go (en : Int × Int) (f : Nat) (r : Rd) (acc : List Vl) (h : r.e = 0 ∧ r.is [125] = false) : valuesL en (f + 1) r acc = valuesL en f (r.value en).2 (acc ++ [(r.value en).1]) := by
  rw [valuesL, if_pos h]
theorem methodsL_stop (en : Int × Int) (f : Nat) (r : Rd) (acc : List Mt) (h : ¬ (r.e = 0 ∧ r.is [125] = false)) : methodsL en f r acc = (acc, r) := by
  cases f with
  | zero => rfl
  | succ f => rw [methodsL, if_neg h]
theorem methodsL_go (en : Int × Int) (f : Nat) (r : Rd) (acc : List Mt) (h : r.e = 0 ∧ r.is [125] = false) : methodsL en (f + 1) r acc = methodsL en f (r.method en).2 (acc ++ [(r.method en).1]) := by
  rw [methodsL, if_pos h]
theorem bodyL_stop (en : Int × Int) (msg : Rd → Dc × Rd) (f : Nat) (r : Rd) (fs : List Fd) (ds : List Dc) (h : ¬ (r.e = 0 ∧ r.is [125] = false)) : bodyL en msg f r fs ds = ((fs, ds), r) := by
  cases f with
  | zero => rfl
  | succ f => rw [bodyL, if_neg h]
theorem bodyL_go (en : Int × Int) (msg : Rd → Dc × Rd) (f : Nat) (r : Rd) (fs : List Fd) (ds : List Dc) (h : r.e = 0 ∧ r.is [125] = false) : bodyL en msg (f + 1) r fs ds =
    (if r.is tMessage = true then bodyL en msg f (msg r).2 fs (ds ++ [(msg r).1]) else if r.is tEnum = true then bodyL en msg f (r.enum en).2 fs (ds ++ [(r.enum en).1]) else bodyL en msg f (r.field en).2 (fs ++ [(r.field en).1]) ds) := by
  rw [bodyL, if_pos h]
theorem declsL_stop (en : Int × Int) (f : Nat) (r : Rd) (acc : List Dc) (h : ¬ (r.e = 0 ∧ r.l ≠ [])) : declsL en f r acc = (acc, r) := by
  cases f with
  | zero => rfl
  | succ f => rw [declsL, if_neg h]
theorem declsL_go (en : Int × Int) (f : Nat) (r : Rd) (acc : List Dc) (h : r.e = 0 ∧ r.l ≠ []) : declsL en (f + 1) r acc =
    (if r.is tMessage = true then declsL en f (r.message en 1).2 (acc ++ [(r.message en 1).1])
      else if r.is tEnum = true then declsL en f (r.enum en).2 (acc ++ [(r.enum en).1])
      else if r.is tService = true then declsL en f (r.service en).2 (acc ++ [(r.service en).1])
      else declsL en f (r.fail 7 (r.here en)) acc) := by
  rw [declsL, if_pos h]
theorem words_few (l : List UInt8) : (wordsL l).1.length ≤ 4000 := by
  unfold wordsL
  split
  · simp
  · exact lexL_count _ _ _ _ _ (by simp)
theorem words_good (l : List UInt8) : ∀ x ∈ (wordsL l).1, GoodW x := by
  intro x hx
  refine ⟨words_texts l x hx, fun hk => ?_⟩
  have hok : WordOK x := by
    unfold wordsL at hx
    split at hx
    · simp at hx
    · exact lexL_ok _ _ _ _ _ (by simp) x hx
  rcases hok with ⟨h1, _⟩ | ⟨_, _, h2⟩ | ⟨h3, _⟩
  · omega
  · rw [Bool.and_eq_true] at h2
    refine ⟨h2.1, ?_⟩
    have h3 := h2.2
    unfold numL at h3
    rw [Bool.and_eq_true, Bool.and_eq_true, decide_eq_true_iff] at h3
    exact h3.1.1
  · omega
theorem words_short (l : List UInt8) (h : (wordsL l).2.2 = 0) : l.length ≤ 20000 := by
  unfold wordsL at h
  split at h
  · exact absurd h (by decide)
  · omega
theorem Rd.scal_head {r : Rd} (h : r.isScal = true) : ∃ y l, r.l = y :: l ∧ r.e = 0 ∧ 0 < scalarOf y.text := by
  unfold Rd.isScal at h
  cases hl : r.l with
  | nil => rw [hl] at h; simp at h
  | cons y l =>
    rw [hl] at h
    simp only [Bool.and_eq_true, decide_eq_true_iff] at h
    exact ⟨y, l, rfl, h.1, h.2⟩
theorem Rd.scal_not {r : Rd} (hi : ¬ r.isScal = true) : r.e ≠ 0 ∨ (r.e = 0 ∧ r.l = []) ∨ (∃ y t, r.e = 0 ∧ r.l = y :: t ∧ ¬ 0 < scalarOf y.text) := by
  by_cases he : r.e = 0
  · right
    cases hl' : r.l with
    | nil => exact .inl ⟨he, rfl⟩
    | cons y t =>
      right
      refine ⟨y, t, he, rfl, fun hk => hi ?_⟩
      unfold Rd.isScal
      rw [hl', he]
      simp [hk]
  · exact .inl he
abbrev z6 : Array Value := #[.bool false, .string ⟨#[]⟩, .string ⟨#[]⟩, .int .i64 0, .int .i64 0, .int .i64 0]
theorem flat8 : ∀ (rs : List (List Value)) (j : Nat) (r : List Value) (i : Nat), (∀ r ∈ rs, r.length = 8) → i < 8 → rs[j]? = some r → (rs.flatMap id)[j * 8 + i]? = r[i]?
  | [], j, r, i, h8, hi, h => by simp at h
  | a :: t, 0, r, i, h8, hi, h => by
    have e : a = r := by simpa using h
    subst e
    rw [List.flatMap_cons, Nat.zero_mul, Nat.zero_add, List.getElem?_append_left (by show i < (id a).length; rw [show (id a).length = 8 from h8 a (by simp)]; exact hi)]; rfl
  | a :: t, j + 1, r, i, h8, hi, h => by
    have ha : (id a).length = 8 := h8 a (by simp)
    rw [List.flatMap_cons, List.getElem?_append_right (by rw [ha]; omega), ha, show (j + 1) * 8 + i - 8 = j * 8 + i by omega]
    exact flat8 t j r i (fun x hx => h8 x (by simp [hx])) hi (by simpa using h)
theorem Rd.m_le (r : Rd) : r.m ≤ r.l.length + 1 := by
  unfold Rd.m; split <;> omega
theorem mkB_app (a b : List UInt8) : mkB (a ++ b) = mkB a ++ mkB b := by
  apply ByteArray.ext
  show (a ++ b).toArray = (mkB a ++ mkB b).data
  rw [ByteArray.data_append]
  simp [mkB]
theorem mkB_len (l : List UInt8) : (mkB l).size = l.length := by rw [← len_data]; rfl
theorem Rd.m_pos {r : Rd} {t : List UInt8} (h : r.is t = true) : 1 ≤ r.m := by
  unfold Rd.m; rw [if_pos (Rd.is_ok h).1]; omega
theorem pathL_stop (en first : Int × Int) (f n : Nat) (s : List UInt8) (r : Rd) (h : r.is [46] = false) : pathL en first f n s r = (s, r) := by
  cases f with
  | zero => rfl
  | succ f => rw [pathL, if_neg (by rw [h]; decide)]
theorem pathL_go (en first : Int × Int) (f n : Nat) (s : List UInt8) (r : Rd) (h : r.is [46] = true) : pathL en first (f + 1) n s r = pathL en first f (n + 1) (s ++ [46] ++ (r.take en [46]).nameT) (if n = 8 then ((r.take en [46]).name en).fail 8 first else (r.take en [46]).name en) := by
  rw [pathL, if_pos h]
theorem Rd.fail_e (r : Rd) (e : Int) (p : Int × Int) (he : e ≠ 0) : (r.fail e p).e ≠ 0 := by
  unfold Rd.fail
  split
  · exact he
  · assumption
/-- how many words are left, off the memory -/
def rdM (w : World) (R : Nat) : Nat :=
  match w.cell? ⟨R, 5, none⟩, w.cell? ⟨R, 0, none⟩ with
  | some (.int _ e), some (.slice _ n _) => if e = 0 then n + 1 else 0
  | _, _ => 0
theorem keepG {w w' : World} {R G : Nat} {o : Obj} (h : w.heap[G]? = some o) (hg : w.grownBy w' (some R)) (hne : R ≠ G) : w'.heap[G]? = some o := by
  rw [hg.block G (Array.getElem?_eq_some_iff.1 h).1 (by intro e; cases e; exact hne rfl)]; exact h
/-- an enum, as a value -/
def dval (kind : Int) (nm : List UInt8) (l c : Int) (fs vs ms ins : Value) : Value := .agg #[.int .i64 kind, .string (mkB nm), .int .i64 l, .int .i64 c, fs, vs, ms, ins]
/-- a field, as a value -/
def fval (f : Fd) : Value := .agg #[.bool f.rep, .string (mkB f.type), .string (mkB f.name), .int .i64 f.num, .int .i64 f.line, .int .i64 f.col]
theorem Rd.fail_keep {r : Rd} (h : r.e ≠ 0) (e : Int) (p : Int × Int) : r.fail e p = r := by unfold Rd.fail; rw [if_neg h]
theorem Rd.take_e {en : Int × Int} {r : Rd} (h : r.e ≠ 0) (t : List UInt8) : (r.take en t).e ≠ 0 := by
  unfold Rd.take
  rw [if_neg (fun hi => h (Rd.is_ok hi).1), Rd.fail_keep h]; exact h
theorem Rd.name_e {en : Int × Int} {r : Rd} (h : r.e ≠ 0) : (r.name en).e ≠ 0 := by
  unfold Rd.name
  rw [if_neg (fun hi => h (Rd.isName_ok hi).1), Rd.fail_keep h]; exact h
end Go.Proofs.YtngmimbpakmkiaaGreatDoor
namespace Go.Proofs.YtngmimbpakmkiaaGreatDoor
set_option linter.unusedVariables false

section
variable (en : Int × Int)
theorem Rd.fail_stay {r : Rd} (h : r.e ≠ 0) (e : Int) (p : Int × Int) : r.fail e p = r := by unfold Rd.fail; rw [if_neg h]
theorem Rd.is_off {r : Rd} (h : r.e ≠ 0) (t : List UInt8) : r.is t = false := by unfold Rd.is; simp [h]
theorem Rd.isName_off {r : Rd} (h : r.e ≠ 0) : r.isName = false := by unfold Rd.isName; simp [h]
theorem Rd.isNum_off {r : Rd} (h : r.e ≠ 0) : r.isNum = false := by unfold Rd.isNum; simp [h]
theorem Rd.isScal_off {r : Rd} (h : r.e ≠ 0) : r.isScal = false := by unfold Rd.isScal; simp [h]
theorem Rd.take_stay {r : Rd} (h : r.e ≠ 0) (t : List UInt8) : r.take en t = r := by
  unfold Rd.take; rw [Rd.is_off h, if_neg (by decide), Rd.fail_stay h]
theorem Rd.name_stay {r : Rd} (h : r.e ≠ 0) : r.name en = r := by
  unfold Rd.name; rw [Rd.isName_off h, if_neg (by decide), Rd.fail_stay h]
theorem Rd.number_stay {r : Rd} (h : r.e ≠ 0) : r.number en = r := by
  unfold Rd.number; rw [Rd.isNum_off h, if_neg (by decide), Rd.fail_stay h]
theorem pathL_off (first : Int × Int) (f n : Nat) (s : List UInt8) (r : Rd) (h : r.is [46] = false) : pathL en first f n s r = (s, r) := by
  cases f with
  | zero => rfl
  | succ f => rw [pathL, h, if_neg (by decide)]
theorem Rd.path_stay {r : Rd} (h : r.e ≠ 0) : (r.path en).2 = r := by
  unfold Rd.path; rw [Rd.name_stay en h, pathL_off en _ _ _ _ _ (Rd.is_off h _)]
theorem Rd.typ_stay {r : Rd} (h : r.e ≠ 0) : (r.typ en).2 = r := by
  unfold Rd.typ; rw [Rd.isScal_off h, if_neg (by decide), Rd.path_stay en h]
theorem Rd.value_stay {r : Rd} (h : r.e ≠ 0) : (r.value en).2 = r := by
  unfold Rd.value
  simp only
  rw [Rd.name_stay en h, Rd.take_stay en h, Rd.number_stay en h, Rd.take_stay en h]
theorem Rd.e_fail {r : Rd} (h : r.e = 0) (e : Int) (p : Int × Int) : (r.fail e p).e = e := by unfold Rd.fail; rw [if_pos h]
theorem Rd.e_take {r : Rd} (h : r.e = 0) (t : List UInt8) : decide ((r.take en t).e = 0) = r.is t := by
  unfold Rd.take
  by_cases hi : r.is t = true
  · rw [if_pos hi, hi]; exact decide_eq_true h
  · rw [if_neg hi, Rd.e_fail h]; simp at hi; rw [hi]; rfl
theorem Rd.e_name {r : Rd} (h : r.e = 0) : decide ((r.name en).e = 0) = r.isName := by
  unfold Rd.name
  by_cases hi : r.isName = true
  · rw [if_pos hi, hi]; exact decide_eq_true h
  · rw [if_neg hi, Rd.e_fail h]; simp at hi; rw [hi]; rfl
theorem Rd.e_number {r : Rd} (h : r.e = 0) : decide ((r.number en).e = 0) = r.isNum := by
  unfold Rd.number
  by_cases hi : r.isNum = true
  · rw [if_pos hi, hi]; exact decide_eq_true h
  · rw [if_neg hi, Rd.e_fail h]; simp at hi; rw [hi]; rfl
end
end Go.Proofs.YtngmimbpakmkiaaGreatDoor
namespace Go.Proofs.YtngmimbpakmkiaaGreatDoor
set_option linter.unusedVariables false

def sF (x : Fd) : Fd := ⟨x.rep, x.type, x.name, x.num, 0, 0⟩
def sV (x : Vl) : Vl := ⟨x.name, x.num, 0, 0⟩
def sM (x : Mt) : Mt := ⟨x.name, x.inp, x.out, 0, 0⟩
/-- declarations with all places zero, so deep -/
def stripL : Nat → List Dc → List Dc
  | 0, ds => []
  | f + 1, ds => ds.map fun d => ⟨d.kind, d.name, 0, 0, d.fields.map sF, d.values.map sV, d.methods.map sM, stripL f d.inner⟩
def sD (f : Nat) (d : Dc) : Dc := ⟨d.kind, d.name, 0, 0, d.fields.map sF, d.values.map sV, d.methods.map sM, stripL f d.inner⟩
theorem stripL_succ (f : Nat) (ds : List Dc) : stripL (f + 1) ds = ds.map (sD f) := rfl
/-- alike but for places, the second one with x behind its words -/
def Sim (x : List (Int × List UInt8)) (r r' : Rd) : Prop := r'.e = r.e ∧ (r.e = 0 → kt r'.l = kt r.l ++ x)
section
variable {x : List (Int × List UInt8)} {en en' : Int × Int} {r r' : Rd}
theorem Sim.head (h : Sim x r r') (he : r.e = 0) (ho : x = [] ∨ r.l ≠ []) : (r.l = [] ∧ x = [] ∧ r'.l = []) ∨ ∃ y l y' l', r.l = y :: l ∧ r'.l = y' :: l' ∧ y'.kind = y.kind ∧ y'.text = y.text ∧ kt l' = kt l ++ x := by
  have hk := h.2 he
  cases hl : r.l with
  | nil =>
    rw [hl] at hk
    rcases ho with rfl | ho
    · refine .inl ⟨rfl, rfl, ?_⟩
      cases hl' : r'.l with
      | nil => rfl
      | cons y t => rw [hl'] at hk; simp [kt] at hk
    · exact absurd hl ho
  | cons y l =>
    rw [hl] at hk
    cases hl' : r'.l with
    | nil => rw [hl'] at hk; simp [kt] at hk
    | cons y' l' =>
      rw [hl'] at hk
      simp only [kt, List.map_cons, List.cons_append, List.cons.injEq, Prod.mk.injEq] at hk
      exact .inr ⟨y, l, y', l', rfl, rfl, hk.1.1, hk.1.2, hk.2⟩
theorem Sim.is (h : Sim x r r') (ho : x = [] ∨ r.l ≠ []) (t : List UInt8) : r'.is t = r.is t := by
  by_cases he : r.e = 0
  · rcases h.head he ho with ⟨h1, _, h2⟩ | ⟨y, l, y', l', h1, h2, _, h3, _⟩
    · unfold Rd.is; rw [h1, h2, h.1]
    · unfold Rd.is; rw [h1, h2, h.1]; simp only; rw [h3]
  · rw [Rd.is_off he, Rd.is_off (by rw [h.1]; exact he)]
theorem Sim.isName (h : Sim x r r') (ho : x = [] ∨ r.l ≠ []) : r'.isName = r.isName := by
  by_cases he : r.e = 0
  · rcases h.head he ho with ⟨h1, _, h2⟩ | ⟨y, l, y', l', h1, h2, h4, h3, _⟩
    · unfold Rd.isName; rw [h1, h2, h.1]
    · unfold Rd.isName; rw [h1, h2, h.1]; simp only; rw [h3, h4]
  · rw [Rd.isName_off he, Rd.isName_off (by rw [h.1]; exact he)]
theorem Sim.isNum (h : Sim x r r') (ho : x = [] ∨ r.l ≠ []) : r'.isNum = r.isNum := by
  by_cases he : r.e = 0
  · rcases h.head he ho with ⟨h1, _, h2⟩ | ⟨y, l, y', l', h1, h2, h4, h3, _⟩
    · unfold Rd.isNum; rw [h1, h2, h.1]
    · unfold Rd.isNum; rw [h1, h2, h.1]; simp only; rw [h4]
  · rw [Rd.isNum_off he, Rd.isNum_off (by rw [h.1]; exact he)]
theorem Sim.isScal (h : Sim x r r') (ho : x = [] ∨ r.l ≠ []) : r'.isScal = r.isScal := by
  by_cases he : r.e = 0
  · rcases h.head he ho with ⟨h1, _, h2⟩ | ⟨y, l, y', l', h1, h2, h4, h3, _⟩
    · unfold Rd.isScal; rw [h1, h2, h.1]
    · unfold Rd.isScal; rw [h1, h2, h.1]; simp only; rw [h3]
  · rw [Rd.isScal_off he, Rd.isScal_off (by rw [h.1]; exact he)]
theorem Sim.text (h : Sim x r r') (he : r.e = 0) (ho : x = [] ∨ r.l ≠ []) : r'.text = r.text := by
  rcases h.head he ho with ⟨h1, _, h2⟩ | ⟨y, l, y', l', h1, h2, h4, h3, _⟩
  · unfold Rd.text; rw [h1, h2]
  · unfold Rd.text; rw [h1, h2]; exact h3
theorem Sim.tail (h : Sim x r r') (hn : r.l ≠ []) : Sim x r.tail r'.tail := by
  refine ⟨h.1, fun he => ?_⟩
  have he' : r.e = 0 := he
  rcases h.head he' (.inr hn) with ⟨h1, _, h2⟩ | ⟨y, l, y', l', h1, h2, _, _, h5⟩
  · exact absurd h1 hn
  · unfold Rd.tail; simp only; rw [h1, h2]; exact h5
theorem Sim.fail (h : Sim x r r') (e : Int) (hz : e ≠ 0) (p p' : Int × Int) : Sim x (r.fail e p) (r'.fail e p') := by
  by_cases he : r.e = 0
  · have he' : r'.e = 0 := by rw [h.1]; exact he
    unfold Rd.fail
    rw [if_pos he, if_pos he']
    exact ⟨rfl, fun hh => absurd hh hz⟩
  · rw [Rd.fail_stay he, Rd.fail_stay (by rw [h.1]; exact he)]; exact h
theorem Rd.take_ok {t : List UInt8} (h : (r.take en t).e = 0) : r.e = 0 ∧ r.is t = true ∧ r.l ≠ [] := by
  by_cases he : r.e = 0
  · by_cases hi : r.is t = true
    · exact ⟨he, hi, (Rd.is_ok hi).2.1⟩
    · unfold Rd.take at h; rw [if_neg hi, Rd.e_fail he] at h; cases h
  · rw [Rd.take_stay en he] at h; exact absurd h he
theorem Rd.name_ok (h : (r.name en).e = 0) : r.e = 0 ∧ r.isName = true ∧ r.l ≠ [] := by
  by_cases he : r.e = 0
  · by_cases hi : r.isName = true
    · exact ⟨he, hi, (Rd.isName_ok hi).2⟩
    · unfold Rd.name at h; rw [if_neg hi, Rd.e_fail he] at h; cases h
  · rw [Rd.name_stay en he] at h; exact absurd h he
theorem Rd.number_ok (h : (r.number en).e = 0) : r.e = 0 ∧ r.isNum = true ∧ r.l ≠ [] := by
  by_cases he : r.e = 0
  · by_cases hi : r.isNum = true
    · exact ⟨he, hi, (Rd.isNum_ok hi).2⟩
    · unfold Rd.number at h; rw [if_neg hi, Rd.e_fail he] at h; cases h
  · rw [Rd.number_stay en he] at h; exact absurd h he
theorem Sim.take (h : Sim x r r') (t : List UInt8) (ho : x = [] ∨ (r.take en t).e = 0) : Sim x (r.take en t) (r'.take en' t) := by
  have hi := h.is (ho.imp id fun k => (Rd.take_ok k).2.2) t
  unfold Rd.take
  rw [hi]
  by_cases hk : r.is t = true
  · rw [if_pos hk, if_pos hk]; exact h.tail (Rd.is_ok hk).2.1
  · rw [if_neg hk, if_neg hk]; exact h.fail 7 (by decide) _ _
theorem Sim.name (h : Sim x r r') (ho : x = [] ∨ (r.name en).e = 0) : Sim x (r.name en) (r'.name en') ∧ r'.nameT = r.nameT := by
  have hn := ho.imp id fun k => (Rd.name_ok k).2.2
  have hi := h.isName hn
  unfold Rd.name Rd.nameT
  rw [hi]
  by_cases hk : r.isName = true
  · rw [if_pos hk, if_pos hk, if_pos hk, if_pos hk]; exact ⟨h.tail (Rd.isName_ok hk).2, h.text (Rd.isName_ok hk).1 hn⟩
  · rw [if_neg hk, if_neg hk, if_neg hk, if_neg hk]; exact ⟨h.fail 7 (by decide) _ _, rfl⟩
theorem Sim.number (h : Sim x r r') (ho : x = [] ∨ (r.number en).e = 0) : Sim x (r.number en) (r'.number en') ∧ r'.numberV = r.numberV := by
  have hn := ho.imp id fun k => (Rd.number_ok k).2.2
  have hi := h.isNum hn
  unfold Rd.number Rd.numberV
  rw [hi]
  by_cases hk : r.isNum = true
  · rw [if_pos hk, if_pos hk, if_pos hk, if_pos hk, h.text (Rd.isNum_ok hk).1 hn]; exact ⟨h.tail (Rd.isNum_ok hk).2, rfl⟩
  · rw [if_neg hk, if_neg hk, if_neg hk, if_neg hk]; exact ⟨h.fail 7 (by decide) _ _, rfl⟩
end
theorem pathL_on (en first : Int × Int) (f n : Nat) (s : List UInt8) (r : Rd) (h : r.is [46] = true) : pathL en first (f + 1) n s r = pathL en first f (n + 1) (s ++ [46] ++ (r.take en [46]).nameT) (if n = 8 then ((r.take en [46]).name en).fail 8 first else (r.take en [46]).name en) := by
  rw [pathL, if_pos h]
theorem Sim.pathL {x : List (Int × List UInt8)} {en en' : Int × Int} (first first' : Int × Int) : ∀ (f f' n : Nat) (s : List UInt8) (r r' : Rd), r.m ≤ f → r'.m ≤ f' → Sim x r r' → (x = [] ∨ ((pathL en first f n s r).2.e = 0 ∧ (pathL en first f n s r).2.l ≠ [])) →
    (pathL en' first' f' n s r').1 = (pathL en first f n s r).1 ∧ Sim x (pathL en first f n s r).2 (pathL en' first' f' n s r').2
  | f, f', n, s, r, r', hf, hf', h, ho => by
    by_cases hi : r.is [46] = true
    · have he := (Rd.is_ok hi).1
      have hm : 1 ≤ r.m := by unfold Rd.m; rw [if_pos he]; omega
      have hi' : r'.is [46] = true := by rw [h.is (.inr (Rd.is_ok hi).2.1)]; exact hi
      have hm' : 1 ≤ r'.m := by unfold Rd.m; rw [if_pos (Rd.is_ok hi').1]; omega
      obtain ⟨f, rfl⟩ : ∃ g, f = g + 1 := ⟨f - 1, by omega⟩
      obtain ⟨f', rfl⟩ : ∃ g, f' = g + 1 := ⟨f' - 1, by omega⟩
      rw [pathL_on en first f n s r hi] at ho ⊢
      rw [pathL_on en' first' f' n s r' hi']
      have hte : (r.take en [46]).e = 0 := by have := Rd.e_take en he [46]; rw [hi] at this; simpa using this
      have h1 := h.take (en := en) (en' := en') [46] (.inr hte)
      have m1 := Rd.m_take en r [46]
      have m2 := Rd.m_name en (r.take en [46])
      have m1' := Rd.m_take en' r' [46]
      have m2' := Rd.m_name en' (r'.take en' [46])
      by_cases h8 : n = 8
      · rw [if_pos h8] at ho ⊢
        rw [if_pos h8]
        have hx : x = [] := by
          rcases ho with hx | ⟨hx, _⟩
          · exact hx
          · have hne : (((r.take en [46]).name en).fail 8 first).e ≠ 0 := by
              by_cases hz : ((r.take en [46]).name en).e = 0
              · rw [Rd.e_fail hz]; decide
              · rw [Rd.fail_stay hz]; exact hz
            rw [pathL_off en _ _ _ _ _ (Rd.is_off hne _)] at hx
            exact absurd hx hne
        have h2 := h1.name (en := en) (en' := en') (.inl hx)
        rw [h2.2]
        exact Sim.pathL first first' f f' _ _ _ _ (by have := Rd.m_fail ((r.take en [46]).name en) 8 first (by decide); omega) (by have := Rd.m_fail ((r'.take en' [46]).name en') 8 first' (by decide); omega) (h2.1.fail 8 (by decide) _ _) ho
      · rw [if_neg h8] at ho ⊢
        rw [if_neg h8]
        have h2 := h1.name (en := en) (en' := en') (by
          refine ho.imp id fun hx => ?_
          by_cases hz : ((r.take en [46]).name en).e = 0
          · exact hz
          · rw [pathL_off en _ _ _ _ _ (Rd.is_off hz _)] at hx
            exact absurd hx.1 hz)
        rw [h2.2]
        exact Sim.pathL first first' f f' _ _ _ _ (by omega) (by omega) h2.1 ho
    · have hi0 : r.is [46] = false := by simpa using hi
      rw [pathL_off en _ _ _ _ _ hi0] at ho ⊢
      have hi' : r'.is [46] = false := by rw [h.is (ho.imp id fun k => k.2)]; exact hi0
      rw [pathL_off en' _ _ _ _ _ hi']
      exact ⟨rfl, h⟩
  termination_by f => f
section
variable {x : List (Int × List UInt8)} {en en' : Int × Int} {r r' : Rd}
theorem Sim.path (h : Sim x r r') (ho : x = [] ∨ ((r.path en).2.e = 0 ∧ (r.path en).2.l ≠ [])) : (r'.path en').1 = (r.path en).1 ∧ Sim x (r.path en).2 (r'.path en').2 := by
  have h2 := h.name (en := en) (en' := en') (by
    refine ho.imp id fun hx => ?_
    by_cases hz : (r.name en).e = 0
    · exact hz
    · unfold Rd.path at hx
      rw [pathL_off en _ _ _ _ _ (Rd.is_off hz _)] at hx
      exact absurd hx.1 hz)
  unfold Rd.path at ho ⊢
  rw [h2.2]
  have m2 := Rd.m_name en r
  have m2' := Rd.m_name en' r'
  have m3 : r.m ≤ r.l.length + 1 := by unfold Rd.m; split <;> omega
  have m3' : r'.m ≤ r'.l.length + 1 := by unfold Rd.m; split <;> omega
  exact Sim.pathL _ _ _ _ _ _ _ _ (by omega) (by omega) h2.1 ho
theorem Sim.typ (h : Sim x r r') (ho : x = [] ∨ ((r.typ en).2.e = 0 ∧ (r.typ en).2.l ≠ [])) : (r'.typ en').1 = (r.typ en).1 ∧ Sim x (r.typ en).2 (r'.typ en').2 := by
  by_cases hn : x = [] ∨ r.l ≠ []
  · have hi := h.isScal hn
    unfold Rd.typ at ho ⊢
    rw [hi]
    by_cases hk : r.isScal = true
    · rw [if_pos hk, if_pos hk]; exact ⟨h.text (Rd.isScal_ok hk).1 hn, h.tail (Rd.isScal_ok hk).2⟩
    · rw [if_neg hk] at ho ⊢; rw [if_neg hk]; exact h.path ho
  · exfalso
    have hl : r.l = [] := by
      by_cases hl : r.l = []
      · exact hl
      · exact absurd (.inr hl) hn
    rcases ho with ho | ho
    · exact hn (.inl ho)
    · have hk : ¬ r.isScal = true := fun hk => (Rd.isScal_ok hk).2 hl
      unfold Rd.typ at ho
      rw [if_neg hk] at ho
      have hnm : ¬ r.isName = true := fun hk => (Rd.isName_ok hk).2 hl
      have hne : (r.name en).e ≠ 0 := by
        intro hz; exact hnm (Rd.name_ok hz).2.1
      unfold Rd.path at ho
      rw [pathL_off en _ _ _ _ _ (Rd.is_off hne _)] at ho
      exact hne ho.1
theorem Sim.value (h : Sim x r r') (ho : x = [] ∨ (r.value en).2.e = 0) : sV (r'.value en').1 = sV (r.value en).1 ∧ Sim x (r.value en).2 (r'.value en').2 := by
  unfold Rd.value at ho ⊢
  simp only at ho ⊢
  have o3 := ho.imp id fun k => (Rd.take_ok k).1
  have o2 := o3.imp id fun k => (Rd.number_ok k).1
  have o1 := o2.imp id fun k => (Rd.take_ok k).1
  have h1 := h.name (en := en) (en' := en') o1
  have h2 := h1.1.take (en := en) (en' := en') [61] o2
  have h3 := h2.number (en := en) (en' := en') o3
  have h4 := h3.1.take (en := en) (en' := en') [59] ho
  exact ⟨by unfold sV; rw [h1.2, h3.2], h4⟩
theorem Sim.method (h : Sim x r r') (ho : x = [] ∨ (r.method en).2.e = 0) : sM (r'.method en').1 = sM (r.method en).1 ∧ Sim x (r.method en).2 (r'.method en').2 := by
  unfold Rd.method at ho ⊢
  simp only at ho ⊢
  have q9 := ho.imp id fun k => (Rd.take_ok k).1
  have q8 := q9.imp id fun k => And.intro (Rd.take_ok k).1 (Rd.take_ok k).2.2
  obtain ⟨a, ha⟩ : ∃ a, ((r.take en tRpc).name en).take en [40] = a := ⟨_, rfl⟩
  rw [ha] at ho q9 q8 ⊢
  obtain ⟨c, hc⟩ : ∃ c, ((a.path en).2.take en [41]).take en tReturns = c := ⟨_, rfl⟩
  rw [hc] at ho q9 q8 ⊢
  have q7 : x = [] ∨ (c.take en [40]).e = 0 := by
    refine q8.imp id fun k => ?_
    by_cases hz : (c.take en [40]).e = 0
    · exact hz
    · rw [Rd.path_stay en hz] at k; exact absurd k.1 hz
  have q6 : x = [] ∨ (((a.path en).2.take en [41]).take en tReturns).e = 0 := by rw [hc]; exact q7.imp id fun k => (Rd.take_ok k).1
  have q5 := q6.imp id fun k => (Rd.take_ok k).1
  have q4 := q5.imp id fun k => And.intro (Rd.take_ok k).1 (Rd.take_ok k).2.2
  have q3 : x = [] ∨ (((r.take en tRpc).name en).take en [40]).e = 0 := by
    rw [ha]
    refine q4.imp id fun k => ?_
    by_cases hz : a.e = 0
    · exact hz
    · rw [Rd.path_stay en hz] at k; exact absurd k.1 hz
  have q2 := q3.imp id fun k => (Rd.take_ok k).1
  have q1 := q2.imp id fun k => (Rd.name_ok k).1
  have h1 := h.take (en := en) (en' := en') tRpc q1
  have h2 := h1.name (en := en) (en' := en') q2
  have h3 := h2.1.take (en := en) (en' := en') [40] q3
  rw [ha] at h3
  have h4 := h3.path (en := en) (en' := en') q4
  have h5 := h4.2.take (en := en) (en' := en') [41] q5
  have h6 := h5.take (en := en) (en' := en') tReturns q6
  rw [hc] at h6
  have h7 := h6.take (en := en) (en' := en') [40] q7
  have h8 := h7.path (en := en) (en' := en') q8
  have h9 := h8.2.take (en := en) (en' := en') [41] q9
  have h10 := h9.take (en := en) (en' := en') [59] ho
  exact ⟨by unfold sM; simp only; rw [h2.2, h4.1, h8.1], h10⟩
theorem Sim.field (h : Sim x r r') (hn : r.l ≠ []) (ho : x = [] ∨ (r.field en).2.e = 0) : sF (r'.field en').1 = sF (r.field en).1 ∧ Sim x (r.field en).2 (r'.field en').2 := by
  unfold Rd.field at ho ⊢
  simp only at ho ⊢
  have hi := h.is (.inr hn) tRepeated
  rw [hi]
  have h0 : Sim x (if r.is tRepeated = true then r.take en tRepeated else r) (if r.is tRepeated = true then r'.take en' tRepeated else r') := by
    by_cases hk : r.is tRepeated = true
    · rw [if_pos hk, if_pos hk]
      refine h.take tRepeated (.inr ?_)
      have := Rd.e_take en (Rd.is_ok hk).1 tRepeated
      rw [hk] at this; simpa using this
    · rw [if_neg hk, if_neg hk]; exact h
  generalize (if r.is tRepeated = true then r.take en tRepeated else r) = a at *
  generalize (if r.is tRepeated = true then r'.take en' tRepeated else r') = a' at *
  have q5 := ho.imp id fun k => (Rd.take_ok k).1
  have q4 := q5.imp id fun k => (Rd.number_ok k).1
  have q3 := q4.imp id fun k => (Rd.take_ok k).1
  have q2 := q3.imp id fun k => And.intro (Rd.name_ok k).1 (Rd.name_ok k).2.2
  have h1 := h0.typ (en := en) (en' := en') q2
  have h2 := h1.2.name (en := en) (en' := en') q3
  have h3 := h2.1.take (en := en) (en' := en') [61] q4
  have h4 := h3.number (en := en) (en' := en') q5
  have h5 := h4.1.take (en := en) (en' := en') [59] ho
  exact ⟨by unfold sF; rw [h1.1, h2.2, h4.2], h5⟩
end
end Go.Proofs.YtngmimbpakmkiaaGreatDoor
namespace Go.Proofs.YtngmimbpakmkiaaGreatDoor
set_option linter.unusedVariables false

/-- alike but for places, however deep -/
def DE (d d' : Dc) : Prop := ∀ g, sD g d' = sD g d
def DLs (ds ds' : List Dc) : Prop := ∀ g, ds'.map (sD g) = ds.map (sD g)
theorem DLs.strip {ds ds' : List Dc} (h : DLs ds ds') (g : Nat) : stripL g ds' = stripL g ds := by
  cases g with
  | zero => rfl
  | succ g => rw [stripL_succ, stripL_succ]; exact h g
theorem DLs.snoc {ds ds' : List Dc} {d d' : Dc} (h : DLs ds ds') (h1 : DE d d') : DLs (ds ++ [d]) (ds' ++ [d']) := fun g => by
  rw [List.map_append, List.map_append, h g]; simp [h1 g]
section
variable {x : List (Int × List UInt8)} {en en' : Int × Int}
theorem Rd.value_ok {r : Rd} (h : (r.value en).2.e = 0) : r.e = 0 ∧ r.l ≠ [] := by
  unfold Rd.value at h
  have h1 := (Rd.take_ok (Rd.number_ok (Rd.take_ok h).1).1).1
  exact ⟨(Rd.name_ok h1).1, (Rd.name_ok h1).2.2⟩
theorem Rd.method_ok {r : Rd} (h : (r.method en).2.e = 0) : r.e = 0 ∧ r.l ≠ [] := by
  by_cases hz : (r.take en tRpc).e = 0
  · exact ⟨(Rd.take_ok hz).1, (Rd.take_ok hz).2.2⟩
  · exfalso
    unfold Rd.method at h
    simp only at h
    rw [Rd.name_stay en hz, Rd.take_stay en hz, Rd.path_stay en hz, Rd.take_stay en hz, Rd.take_stay en hz, Rd.take_stay en hz, Rd.path_stay en hz, Rd.take_stay en hz, Rd.take_stay en hz] at h
    exact hz h
theorem Rd.field_ok {r : Rd} (h : (r.field en).2.e = 0) : r.e = 0 ∧ r.l ≠ [] := by
  unfold Rd.field at h
  simp only at h
  have h1 := (Rd.name_ok (Rd.take_ok (Rd.number_ok (Rd.take_ok h).1).1).1).1
  by_cases hi : r.is tRepeated = true
  · exact ⟨(Rd.is_ok hi).1, (Rd.is_ok hi).2.1⟩
  · rw [if_neg hi] at h1
    have he : r.e = 0 := by
      by_cases hz : r.e = 0
      · exact hz
      · rw [Rd.typ_stay en hz] at h1; exact h1
    refine ⟨he, fun hl => ?_⟩
    have hk : ¬ r.isScal = true := fun hk => (Rd.isScal_ok hk).2 hl
    unfold Rd.typ at h1
    rw [if_neg hk] at h1
    have hne : (r.name en).e ≠ 0 := fun hz => (Rd.name_ok hz).2.2 hl
    unfold Rd.path at h1
    rw [pathL_off en _ _ _ _ _ (Rd.is_off hne _)] at h1
    exact hne h1
theorem field_nil {r : Rd} (he : r.e = 0) (hl : r.l = []) : (r.field en).1 = ⟨false, [], [], 0, 0, 0⟩ ∧ (r.field en).2.e = 7 := by
  have i1 : ∀ t, r.is t = false := fun t => by unfold Rd.is; rw [hl]; simp
  have i2 : r.isScal = false := by unfold Rd.isScal; rw [hl]; simp
  have i3 : r.isName = false := by unfold Rd.isName; rw [hl]; simp
  have n1 : r.name en = r.fail 7 (r.here en) := by unfold Rd.name; rw [i3, if_neg (by decide)]
  have e1 : (r.fail 7 (r.here en)).e = 7 := Rd.e_fail he 7 _
  have e2 : (r.fail 7 (r.here en)).e ≠ 0 := by rw [e1]; decide
  have t1 : r.typ en = ([], r.fail 7 (r.here en)) := by
    unfold Rd.typ Rd.path Rd.nameT
    rw [i2, if_neg (by decide), i3, if_neg (by decide), n1, pathL_off en _ _ _ _ _ (Rd.is_off e2 _)]
  unfold Rd.field
  simp only
  rw [i1, if_neg (by decide), t1]
  simp only
  rw [Rd.name_stay en e2, Rd.take_stay en e2, Rd.number_stay en e2, Rd.take_stay en e2]
  refine ⟨?_, e1⟩
  unfold Rd.nameT Rd.numberV Rd.nameP
  rw [Rd.isName_off e2, Rd.isNum_off e2, if_neg (by decide), if_neg (by decide), if_neg (by decide)]
theorem Sim.valuesL : ∀ (f f' : Nat) (r r' : Rd) (acc acc' : List Vl), r.m ≤ f → r'.m ≤ f' → Sim x r r' → acc'.map sV = acc.map sV → (x = [] ∨ (valuesL en f r acc).2.e = 0) →
    (valuesL en' f' r' acc').1.map sV = (valuesL en f r acc).1.map sV ∧ Sim x (valuesL en f r acc).2 (valuesL en' f' r' acc').2 := by
  intro f
  induction f with
  | zero =>
    intro f' r r' acc acc' hm hm' h ha ho
    have he : r.e ≠ 0 := by intro he; unfold Rd.m at hm; rw [if_pos he] at hm; omega
    have he' : r'.e ≠ 0 := by rw [h.1]; exact he
    rw [valuesL_stop en 0 r acc (fun hh => he hh.1), valuesL_stop en' f' r' acc' (fun hh => he' hh.1)]
    exact ⟨ha, h⟩
  | succ f ih =>
    intro f' r r' acc acc' hm hm' h ha ho
    by_cases he : r.e = 0
    · have he' : r'.e = 0 := by rw [h.1]; exact he
      have hn : x = [] ∨ r.l ≠ [] := by
        rcases ho with hx | ho
        · exact .inl hx
        · right
          intro hl
          have hi : r.is [125] = false := by unfold Rd.is; rw [hl]; simp
          rw [valuesL_go en f r acc ⟨he, hi⟩] at ho
          have hv : (r.value en).2.e ≠ 0 := fun hz => (Rd.value_ok hz).2 hl
          rw [valuesL_stop en f _ _ (fun hh => hv hh.1)] at ho
          exact hv ho
      have hi' := h.is hn [125]
      have hm1 : 1 ≤ r'.m := by unfold Rd.m; rw [if_pos he']; omega
      obtain ⟨f', rfl⟩ : ∃ g, f' = g + 1 := ⟨f' - 1, by omega⟩
      by_cases hi : r.is [125] = true
      · rw [valuesL_stop en _ r acc (fun hh => by rw [hi] at hh; exact absurd hh.2 (by decide)), valuesL_stop en' _ r' acc' (fun hh => by rw [hi', hi] at hh; exact absurd hh.2 (by decide))]
        exact ⟨ha, h⟩
      · have hi0 : r.is [125] = false := by simpa using hi
        rw [valuesL_go en f r acc ⟨he, hi0⟩] at ho ⊢
        rw [valuesL_go en' f' r' acc' ⟨he', by rw [hi']; exact hi0⟩]
        have hv := h.value (en := en) (en' := en') (by
          refine ho.imp id fun k => ?_
          by_cases hz : (r.value en).2.e = 0
          · exact hz
          · rw [valuesL_stop en f _ _ (fun hh => hz hh.1)] at k; exact absurd k hz)
        have m1 := Rd.m_value en r
        have m2 := Rd.m_value en' r'
        exact ih f' _ _ _ _ (by omega) (by omega) hv.2 (by rw [List.map_append, List.map_append, ha]; simp [hv.1]) ho
    · have he' : r'.e ≠ 0 := by rw [h.1]; exact he
      rw [valuesL_stop en _ r acc (fun hh => he hh.1), valuesL_stop en' f' r' acc' (fun hh => he' hh.1)]
      exact ⟨ha, h⟩
theorem Sim.methodsL : ∀ (f f' : Nat) (r r' : Rd) (acc acc' : List Mt), r.m ≤ f → r'.m ≤ f' → Sim x r r' → acc'.map sM = acc.map sM → (x = [] ∨ (methodsL en f r acc).2.e = 0) →
    (methodsL en' f' r' acc').1.map sM = (methodsL en f r acc).1.map sM ∧ Sim x (methodsL en f r acc).2 (methodsL en' f' r' acc').2 := by
  intro f
  induction f with
  | zero =>
    intro f' r r' acc acc' hm hm' h ha ho
    have he : r.e ≠ 0 := by intro he; unfold Rd.m at hm; rw [if_pos he] at hm; omega
    have he' : r'.e ≠ 0 := by rw [h.1]; exact he
    rw [methodsL_stop en 0 r acc (fun hh => he hh.1), methodsL_stop en' f' r' acc' (fun hh => he' hh.1)]
    exact ⟨ha, h⟩
  | succ f ih =>
    intro f' r r' acc acc' hm hm' h ha ho
    by_cases he : r.e = 0
    · have he' : r'.e = 0 := by rw [h.1]; exact he
      have hn : x = [] ∨ r.l ≠ [] := by
        rcases ho with hx | ho
        · exact .inl hx
        · right
          intro hl
          have hi : r.is [125] = false := by unfold Rd.is; rw [hl]; simp
          rw [methodsL_go en f r acc ⟨he, hi⟩] at ho
          have hv : (r.method en).2.e ≠ 0 := fun hz => (Rd.method_ok hz).2 hl
          rw [methodsL_stop en f _ _ (fun hh => hv hh.1)] at ho
          exact hv ho
      have hi' := h.is hn [125]
      have hm1 : 1 ≤ r'.m := by unfold Rd.m; rw [if_pos he']; omega
      obtain ⟨f', rfl⟩ : ∃ g, f' = g + 1 := ⟨f' - 1, by omega⟩
      by_cases hi : r.is [125] = true
      · rw [methodsL_stop en _ r acc (fun hh => by rw [hi] at hh; exact absurd hh.2 (by decide)), methodsL_stop en' _ r' acc' (fun hh => by rw [hi', hi] at hh; exact absurd hh.2 (by decide))]
        exact ⟨ha, h⟩
      · have hi0 : r.is [125] = false := by simpa using hi
        rw [methodsL_go en f r acc ⟨he, hi0⟩] at ho ⊢
        rw [methodsL_go en' f' r' acc' ⟨he', by rw [hi']; exact hi0⟩]
        have hv := h.method (en := en) (en' := en') (by
          refine ho.imp id fun k => ?_
          by_cases hz : (r.method en).2.e = 0
          · exact hz
          · rw [methodsL_stop en f _ _ (fun hh => hz hh.1)] at k; exact absurd k hz)
        have m1 := Rd.m_method en r
        have m2 := Rd.m_method en' r'
        exact ih f' _ _ _ _ (by omega) (by omega) hv.2 (by rw [List.map_append, List.map_append, ha]; simp [hv.1]) ho
    · have he' : r'.e ≠ 0 := by rw [h.1]; exact he
      rw [methodsL_stop en _ r acc (fun hh => he hh.1), methodsL_stop en' f' r' acc' (fun hh => he' hh.1)]
      exact ⟨ha, h⟩
theorem Sim.enum {r r' : Rd} (h : Sim x r r') (ho : x = [] ∨ (r.enum en).2.e = 0) : DE (r.enum en).1 (r'.enum en').1 ∧ Sim x (r.enum en).2 (r'.enum en').2 := by
  unfold Rd.enum at ho ⊢
  simp only at ho ⊢
  obtain ⟨r3, h3⟩ : ∃ r3, ((r.take en tEnum).name en).take en [123] = r3 := ⟨_, rfl⟩
  rw [h3] at ho ⊢
  have q4 := ho.imp id fun k => (Rd.take_ok k).1
  have q3 : x = [] ∨ (((r.take en tEnum).name en).take en [123]).e = 0 := by
    rw [h3]
    refine q4.imp id fun k => ?_
    by_cases hz : r3.e = 0
    · exact hz
    · rw [valuesL_stop en _ r3 [] (fun hh => hz hh.1)] at k; exact k
  have q2 := q3.imp id fun k => (Rd.take_ok k).1
  have q1 := q2.imp id fun k => (Rd.name_ok k).1
  have a1 := h.take (en := en) (en' := en') tEnum q1
  have a2 := a1.name (en := en) (en' := en') q2
  have a3 := a2.1.take (en := en) (en' := en') [123] q3
  rw [h3] at a3
  have a4 := Sim.valuesL (en := en) (en' := en') _ _ r3 _ [] [] (Rd.m_le _) (Rd.m_le _) a3 rfl q4
  have a5 := a4.2.take (en := en) (en' := en') [125] ho
  exact ⟨fun g => by unfold sD; simp only; rw [a2.2, a4.1], a5⟩
theorem Sim.service {r r' : Rd} (h : Sim x r r') (ho : x = [] ∨ (r.service en).2.e = 0) : DE (r.service en).1 (r'.service en').1 ∧ Sim x (r.service en).2 (r'.service en').2 := by
  unfold Rd.service at ho ⊢
  simp only at ho ⊢
  obtain ⟨r3, h3⟩ : ∃ r3, ((r.take en tService).name en).take en [123] = r3 := ⟨_, rfl⟩
  rw [h3] at ho ⊢
  have q4 := ho.imp id fun k => (Rd.take_ok k).1
  have q3 : x = [] ∨ (((r.take en tService).name en).take en [123]).e = 0 := by
    rw [h3]
    refine q4.imp id fun k => ?_
    by_cases hz : r3.e = 0
    · exact hz
    · rw [methodsL_stop en _ r3 [] (fun hh => hz hh.1)] at k; exact k
  have q2 := q3.imp id fun k => (Rd.take_ok k).1
  have q1 := q2.imp id fun k => (Rd.name_ok k).1
  have a1 := h.take (en := en) (en' := en') tService q1
  have a2 := a1.name (en := en) (en' := en') q2
  have a3 := a2.1.take (en := en) (en' := en') [123] q3
  rw [h3] at a3
  have a4 := Sim.methodsL (en := en) (en' := en') _ _ r3 _ [] [] (Rd.m_le _) (Rd.m_le _) a3 rfl q4
  have a5 := a4.2.take (en := en) (en' := en') [125] ho
  exact ⟨fun g => by unfold sD; simp only; rw [a2.2, a4.1], a5⟩
theorem Sim.bodyL {msg msg' : Rd → Dc × Rd} (hmm : ∀ r, (msg r).2.m ≤ r.m - 1) (hmm' : ∀ r, (msg' r).2.m ≤ r.m - 1)
    (hms : ∀ r r', Sim x r r' → (x = [] ∨ (msg r).2.e = 0) → DE (msg r).1 (msg' r').1 ∧ Sim x (msg r).2 (msg' r').2) :
    ∀ (f f' : Nat) (r r' : Rd) (fs fs' : List Fd) (ds ds' : List Dc), r.m ≤ f → r'.m ≤ f' → Sim x r r' → fs'.map sF = fs.map sF → DLs ds ds' → (x = [] ∨ (bodyL en msg f r fs ds).2.e = 0) →
    (bodyL en' msg' f' r' fs' ds').1.1.map sF = (bodyL en msg f r fs ds).1.1.map sF ∧ DLs (bodyL en msg f r fs ds).1.2 (bodyL en' msg' f' r' fs' ds').1.2 ∧ Sim x (bodyL en msg f r fs ds).2 (bodyL en' msg' f' r' fs' ds').2 := by
  intro f
  induction f with
  | zero =>
    intro f' r r' fs fs' ds ds' hm hm' h hf hd ho
    have he : r.e ≠ 0 := by intro he; unfold Rd.m at hm; rw [if_pos he] at hm; omega
    have he' : r'.e ≠ 0 := by rw [h.1]; exact he
    rw [bodyL_stop en msg 0 r fs ds (fun hh => he hh.1), bodyL_stop en' msg' f' r' fs' ds' (fun hh => he' hh.1)]
    exact ⟨hf, hd, h⟩
  | succ f ih =>
    intro f' r r' fs fs' ds ds' hm hm' h hf hd ho
    by_cases he : r.e = 0
    · have he' : r'.e = 0 := by rw [h.1]; exact he
      have hn : x = [] ∨ r.l ≠ [] := by
        rcases ho with hx | ho
        · exact .inl hx
        · right
          intro hl
          have hi : ∀ t, r.is t = false := fun t => by unfold Rd.is; rw [hl]; simp
          rw [bodyL_go en msg f r fs ds ⟨he, hi _⟩, if_neg (by rw [hi]; decide), if_neg (by rw [hi]; decide)] at ho
          have hv : (r.field en).2.e ≠ 0 := fun hz => (Rd.field_ok hz).2 hl
          rw [bodyL_stop en msg f _ _ _ (fun hh => hv hh.1)] at ho
          exact hv ho
      have hi' := h.is hn [125]
      have hm1 : 1 ≤ r'.m := by unfold Rd.m; rw [if_pos he']; omega
      obtain ⟨f', rfl⟩ : ∃ g, f' = g + 1 := ⟨f' - 1, by omega⟩
      by_cases hi : r.is [125] = true
      · rw [bodyL_stop en msg _ r fs ds (fun hh => by rw [hi] at hh; exact absurd hh.2 (by decide)), bodyL_stop en' msg' _ r' fs' ds' (fun hh => by rw [hi', hi] at hh; exact absurd hh.2 (by decide))]
        exact ⟨hf, hd, h⟩
      · have hi0 : r.is [125] = false := by simpa using hi
        rw [bodyL_go en msg f r fs ds ⟨he, hi0⟩] at ho ⊢
        rw [bodyL_go en' msg' f' r' fs' ds' ⟨he', by rw [hi']; exact hi0⟩, h.is hn tMessage, h.is hn tEnum]
        by_cases hM : r.is tMessage = true
        · rw [if_pos hM] at ho ⊢
          rw [if_pos hM]
          have hv := hms r r' h (by
            refine ho.imp id fun k => ?_
            by_cases hz : (msg r).2.e = 0
            · exact hz
            · rw [bodyL_stop en msg f _ _ _ (fun hh => hz hh.1)] at k; exact absurd k hz)
          have m1 := hmm r
          have m2 := hmm' r'
          exact ih f' _ _ _ _ _ _ (by omega) (by omega) hv.2 hf (hd.snoc hv.1) ho
        · rw [if_neg hM] at ho ⊢
          rw [if_neg hM]
          by_cases hE : r.is tEnum = true
          · rw [if_pos hE] at ho ⊢
            rw [if_pos hE]
            have hv := h.enum (en := en) (en' := en') (by
              refine ho.imp id fun k => ?_
              by_cases hz : (r.enum en).2.e = 0
              · exact hz
              · rw [bodyL_stop en msg f _ _ _ (fun hh => hz hh.1)] at k; exact absurd k hz)
            have m1 := Rd.m_enum en r
            have m2 := Rd.m_enum en' r'
            exact ih f' _ _ _ _ _ _ (by omega) (by omega) hv.2 hf (hd.snoc hv.1) ho
          · rw [if_neg hE] at ho ⊢
            rw [if_neg hE]
            by_cases hl : r.l = []
            · have hx : x = [] := by
                rcases hn with hx | hx
                · exact hx
                · exact absurd hl hx
              have hl' : r'.l = [] := by
                rcases h.head he (.inl hx) with ⟨_, _, h2⟩ | ⟨y, l, y', l', h1, _⟩
                · exact h2
                · rw [hl] at h1; cases h1
              have v1 : (r.field en).2.e ≠ 0 := fun hz => (Rd.field_ok hz).2 hl
              have v2 : (r'.field en').2.e ≠ 0 := fun hz => (Rd.field_ok hz).2 hl'
              have hfe := field_nil (en := en) he hl
              have hfe' := field_nil (en := en') he' hl'
              rw [bodyL_stop en msg f _ _ _ (fun hh => v1 hh.1), bodyL_stop en' msg' f' _ _ _ (fun hh => v2 hh.1)]
              refine ⟨?_, hd, ?_⟩
              · rw [List.map_append, List.map_append, hf, hfe.1, hfe'.1]
              · exact ⟨by rw [hfe.2, hfe'.2], fun hz => absurd hz v1⟩
            · have hv := h.field (en := en) (en' := en') hl (by
                refine ho.imp id fun k => ?_
                by_cases hz : (r.field en).2.e = 0
                · exact hz
                · rw [bodyL_stop en msg f _ _ _ (fun hh => hz hh.1)] at k; exact absurd k hz)
              have m1 := Rd.m_field en r
              have m2 := Rd.m_field en' r'
              exact ih f' _ _ _ _ _ _ (by omega) (by omega) hv.2 (by rw [List.map_append, List.map_append, hf]; simp [hv.1]) hd ho
    · have he' : r'.e ≠ 0 := by rw [h.1]; exact he
      rw [bodyL_stop en msg _ r fs ds (fun hh => he hh.1), bodyL_stop en' msg' f' r' fs' ds' (fun hh => he' hh.1)]
      exact ⟨hf, hd, h⟩
end
end Go.Proofs.YtngmimbpakmkiaaGreatDoor
namespace Go.Proofs.YtngmimbpakmkiaaGreatDoor
set_option linter.unusedVariables false

/-- the pieces between dots; cur: what the piece at hand has so far -/
def pcs : List UInt8 → List UInt8 → List (List UInt8)
  | cur, [] => [cur]
  | cur, b :: t => if b = 46 then cur :: pcs [] t else pcs (cur ++ [b]) t
theorem pcs_nil (cur : List UInt8) : pcs cur [] = [cur] := rfl
theorem pcs_dot (cur t : List UInt8) : pcs cur (46 :: t) = cur :: pcs [] t := by rw [pcs, if_pos rfl]
theorem pcs_on (cur t : List UInt8) (b : UInt8) (h : b ≠ 46) : pcs cur (b :: t) = pcs (cur ++ [b]) t := by rw [pcs, if_neg h]
theorem pcs_len : ∀ (l cur : List UInt8), 1 ≤ (pcs cur l).length ∧ (pcs cur l).length ≤ l.length + 1
  | [], cur => by simp [pcs]
  | b :: t, cur => by
    have h1 := pcs_len t []; have h2 := pcs_len t (cur ++ [b])
    rw [pcs]; split <;> simp <;> omega
/-- joined by dots -/
def jn : List (List UInt8) → List UInt8
  | [] => []
  | [x] => x
  | x :: y :: t => x ++ [46] ++ jn (y :: t)
theorem jn_cons (x : List UInt8) (l : List (List UInt8)) (h : l ≠ []) : jn (x :: l) = x ++ [46] ++ jn l := by
  cases l with
  | nil => exact absurd rfl h
  | cons y t => rfl
theorem jn_pcs : ∀ (l cur : List UInt8), jn (pcs cur l) = cur ++ l
  | [], cur => by simp [pcs, jn]
  | b :: t, cur => by
    by_cases h : b = 46
    · subst h
      rw [pcs_dot, jn_cons _ _ (by intro e; have := (pcs_len t []).1; rw [e] at this; simp at this), jn_pcs t []]; simp
    · rw [pcs_on _ _ _ h, jn_pcs t]; simp
/-- no dot ahead of i, one at i -/
theorem pcs_hit : ∀ (l cur : List UInt8) (i : Nat), l[i]? = some 46 → (∀ j : Nat, j < i → l[j]? ≠ some 46) → pcs cur l = (cur ++ l.take i) :: pcs [] (l.drop (i + 1))
  | [], cur, i, h, _ => by simp at h
  | b :: t, cur, 0, h, _ => by
    simp at h; subst h; rw [pcs_dot]; simp
  | b :: t, cur, i + 1, h, hn => by
    have hb : b ≠ 46 := by intro e; exact hn 0 (by omega) (by simp [e])
    rw [pcs_on _ _ _ hb, pcs_hit t (cur ++ [b]) i (by simpa using h) (fun j hj => by have := hn (j + 1) (by omega); simpa using this)]
    simp
theorem pcs_miss : ∀ (l cur : List UInt8), (∀ j : Nat, l[j]? ≠ some 46) → pcs cur l = [cur ++ l]
  | [], cur, _ => by simp [pcs]
  | b :: t, cur, h => by
    have hb : b ≠ 46 := by intro e; exact h 0 (by simp [e])
    rw [pcs_on _ _ _ hb, pcs_miss t _ (fun j => by have := h (j + 1); simpa using this)]; simp
theorem occ_one (l : List UInt8) (j : Nat) (hj : j < l.length) : Lib.occAt l [46] j = decide (l[j]? = some 46) := by
  rw [Lib.occAt_iff_take _ _ _ (by simp; omega)]
  have e : (l.drop j).take [(46 : UInt8)].length = [l[j]] := by
    rw [List.drop_eq_getElem_cons hj]; rfl
  rw [e, List.getElem?_eq_getElem hj, Bool.eq_iff_iff, beq_iff_eq, decide_eq_true_iff]
  simp
theorem index_dot (l : List UInt8) : (Lib.index l [46] = -1 ∧ ∀ j : Nat, l[j]? ≠ some 46) ∨ ∃ i : Nat, Lib.index l [46] = i ∧ l[i]? = some 46 ∧ ∀ j : Nat, j < i → l[j]? ≠ some 46 := by
  rcases Lib.index_spec l [46] with ⟨h1, h2⟩ | ⟨i, h1, h2, h3, h4⟩
  · refine .inl ⟨h1, fun j hj => ?_⟩
    have hjl := (List.getElem?_eq_some_iff.1 hj).1
    have := h2 j (by omega)
    rw [occ_one l j hjl, decide_eq_false_iff_not] at this
    exact this hj
  · have hil : i < l.length := by
      have := Lib.index_room l [46] (by omega)
      simp at this; omega
    rw [occ_one l i hil, decide_eq_true_iff] at h3
    refine .inr ⟨i, h1, h3, fun j hj hj2 => ?_⟩
    have hjl : j < l.length := by omega
    have := h4 j hj
    rw [occ_one l j hjl, decide_eq_false_iff_not] at this
    exact this hj2
/-- cut at the first k dots at most -/
theorem splitK_pcs : ∀ (k : Nat) (l : List UInt8), ((pcs [] l).length ≤ k + 1 → Lib.splitK [46] 0 k l = pcs [] l) ∧ (k + 1 < (pcs [] l).length → (Lib.splitK [46] 0 k l).length = k + 1)
  | 0, l => by
    refine ⟨fun h => ?_, fun _ => rfl⟩
    rw [Lib.splitK]
    rcases index_dot l with ⟨_, h2⟩ | ⟨i, _, h2, h3⟩
    · rw [pcs_miss l [] h2]; rfl
    · rw [pcs_hit l [] i h2 h3] at h
      have := (pcs_len (l.drop (i + 1)) []).1
      rw [List.length_cons] at h; omega
  | k + 1, l => by
    rcases index_dot l with ⟨h1, h2⟩ | ⟨i, h1, h2, h3⟩
    · rw [pcs_miss l [] h2]
      refine ⟨fun _ => ?_, fun h => by simp at h⟩
      rw [Lib.splitK, if_pos (by rw [h1]; rfl)]; rfl
    · have hm : ¬ (Lib.index l [46] == -1) = true := fun e => by have := beq_iff_eq.1 e; omega
      have e : (Lib.index l [46]).toNat = i := by omega
      obtain ⟨ih1, ih2⟩ := splitK_pcs k (l.drop (i + 1))
      rw [pcs_hit l [] i h2 h3, Lib.splitK, if_neg hm, e]
      simp only [List.length_cons, List.nil_append, Nat.add_zero, List.length_nil]
      refine ⟨fun h => ?_, fun h => ?_⟩
      · rw [ih1 (by omega)]
      · rw [ih2 (by omega)]
/-- a name that isn't reserved -/
def plainL (l : List UInt8) : Bool := nameOf (runes ⟨l.toArray⟩) && !resOf l
/-- at most 8 such names, joined by dots -/
def pathOK (l : List UInt8) : Bool := decide ((pcs [] l).length ≤ 8) && (pcs [] l).all plainL
/-- the type of a field -/
def typeOK (l : List UInt8) : Bool := decide (0 < scalarOf l) || pathOK l
def numOK (n : Int) : Bool := decide (0 ≤ n ∧ n ≤ 2147483647)
theorem plainL_name {l : List UInt8} (h : plainL l = true) : nameOf (runes ⟨l.toArray⟩) = true ∧ resOf l = false := by
  unfold plainL at h
  simpa using h
end Go.Proofs.YtngmimbpakmkiaaGreatDoor
namespace Go.Proofs.YtngmimbpakmkiaaGreatDoor
set_option linter.unusedVariables false

def tb (k : Nat) : List UInt8 := List.replicate k 9
def fT (k : Nat) (x : Fd) : List UInt8 := tb k ++ ((if x.rep = true then tRepeated ++ [32] else []) ++ (x.type ++ 32 :: (x.name ++ 32 :: 61 :: 32 :: (Lib.itoa x.num ++ [59, 10]))))
def vT (k : Nat) (x : Vl) : List UInt8 := tb k ++ (x.name ++ 32 :: 61 :: 32 :: (Lib.itoa x.num ++ [59, 10]))
def mT (k : Nat) (x : Mt) : List UInt8 := tb k ++ (tRpc ++ 32 :: (x.name ++ 40 :: (x.inp ++ 41 :: 32 :: (tReturns ++ 32 :: 40 :: (x.out ++ [41, 59, 10])))))
def kindT (k : Int) : List UInt8 := if k = 1 then tMessage else if k = 2 then tEnum else tService
/-- the text of a declaration that lies in so many others -/
def dT : Nat → Nat → Dc → List UInt8
  | 0, k, d => []
  | f + 1, k, d => tb k ++ (kindT d.kind ++ 32 :: (d.name ++ [32, 123, 10])) ++ (d.fields.flatMap (fT (k + 1)) ++ (d.values.flatMap (vT (k + 1)) ++ (d.methods.flatMap (mT (k + 1)) ++ (d.inner.flatMap (dT f (k + 1)) ++ (tb k ++ [125, 10])))))
/-- the text of declarations that lie in nothing -/
def textL (f : Nat) : List Dc → List UInt8
  | [] => []
  | d :: t => dT f 0 d ++ t.flatMap fun d => 10 :: dT f 0 d
def fOK (x : Fd) : Bool := typeOK x.type && plainL x.name && numOK x.num
def vOK (x : Vl) : Bool := plainL x.name && numOK x.num
def mOK (x : Mt) : Bool := plainL x.name && pathOK x.inp && pathOK x.out
/-- are declarations that lie in so many messages formed? -/
def fmL : Nat → Nat → List Dc → Bool
  | 0, k, ds => ds.isEmpty
  | f + 1, k, ds => ds.all fun d => plainL d.name &&
      (if d.kind = 1 then decide (k < 8) && d.values.isEmpty && d.methods.isEmpty && d.fields.all fOK && fmL f (k + 1) d.inner
      else if d.kind = 2 then d.fields.isEmpty && d.methods.isEmpty && d.inner.isEmpty && d.values.all vOK
      else if d.kind = 3 then decide (k = 0) && d.fields.isEmpty && d.values.isEmpty && d.inner.isEmpty && d.methods.all mOK
      else false)
def fmD (f k : Nat) (d : Dc) : Bool := plainL d.name &&
      (if d.kind = 1 then decide (k < 8) && d.values.isEmpty && d.methods.isEmpty && d.fields.all fOK && fmL f (k + 1) d.inner
      else if d.kind = 2 then d.fields.isEmpty && d.methods.isEmpty && d.inner.isEmpty && d.values.all vOK
      else if d.kind = 3 then decide (k = 0) && d.fields.isEmpty && d.values.isEmpty && d.inner.isEmpty && d.methods.all mOK
      else false)
theorem fmL_succ (f k : Nat) (ds : List Dc) : fmL (f + 1) k ds = ds.all (fmD f k) := rfl

/-! the words -/
abbrev KT := List (Int × List UInt8)
def pW : List (List UInt8) → KT
  | [] => []
  | [x] => [(1, x)]
  | x :: y :: t => (1, x) :: (3, [46]) :: pW (y :: t)
theorem pW_cons (x : List UInt8) (l : List (List UInt8)) (h : l ≠ []) : pW (x :: l) = (1, x) :: (3, [46]) :: pW l := by
  cases l with
  | nil => exact absurd rfl h
  | cons y t => rfl
def fW (x : Fd) : KT := (if x.rep = true then [(1, tRepeated)] else []) ++ (pW (pcs [] x.type) ++ [(1, x.name), (3, [61]), (2, Lib.itoa x.num), (3, [59])])
def vW (x : Vl) : KT := [(1, x.name), (3, [61]), (2, Lib.itoa x.num), (3, [59])]
def mW (x : Mt) : KT := (1, tRpc) :: (1, x.name) :: (3, [40]) :: (pW (pcs [] x.inp) ++ (3, [41]) :: (1, tReturns) :: (3, [40]) :: (pW (pcs [] x.out) ++ [(3, [41]), (3, [59])]))
def dW : Nat → Dc → KT
  | 0, d => []
  | f + 1, d => (1, kindT d.kind) :: (1, d.name) :: (3, [123]) :: (d.fields.flatMap fW ++ (d.values.flatMap vW ++ (d.methods.flatMap mW ++ (d.inner.flatMap (dW f) ++ [(3, [125])]))))

/-- a text is read as these words, whatever stands behind it, or there is an error -/
def Lx (a : List UInt8) (ws : KT) : Prop := ∀ (y : List UInt8) (f line col : Nat) (acc : List Wd), (a ++ y).length ≤ f →
  (lexL f (a ++ y) line col acc).2.2 ≠ 0 ∨ ∃ f' line' col' acc', y.length ≤ f' ∧ kt acc' = kt acc ++ ws ∧ lexL f (a ++ y) line col acc = lexL f' y line' col' acc'
theorem Lx.nil : Lx [] [] := fun y f line col acc h => .inr ⟨f, line, col, acc, by simpa using h, by simp, rfl⟩
theorem Lx.app {a b : List UInt8} {u v : KT} (h1 : Lx a u) (h2 : Lx b v) : Lx (a ++ b) (u ++ v) := by
  intro y f line col acc hf
  rw [List.append_assoc] at hf ⊢
  rcases h1 (b ++ y) f line col acc hf with h | ⟨f1, l1, c1, a1, g1, g2, g3⟩
  · exact .inl h
  · rw [g3]
    rcases h2 y f1 l1 c1 a1 g1 with h | ⟨f2, l2, c2, a2, k1, k2, k3⟩
    · exact .inl h
    · exact .inr ⟨f2, l2, c2, a2, k1, by rw [k2, g2, List.append_assoc], k3⟩
theorem Lx.blank (b : UInt8) (h : b = 32 ∨ b = 9 ∨ b = 10) : Lx [b] [] := by
  intro y f line col acc hf
  obtain ⟨f, rfl⟩ : ∃ f', f = f' + 1 := ⟨f - 1, by simp at hf; omega⟩
  have hy : y.length ≤ f := by simpa using hf
  have hb : b.toNat < 128 := by rcases h with rfl | rfl | rfl <;> decide
  have hx : nx ([b] ++ y) = ((b.toNat : Int), 1) := nx_ascii b y hb
  right
  rcases h with rfl | rfl | rfl
  · exact ⟨f, line, col + 1, acc, hy, by simp, by rw [lexL_blank _ _ _ _ _ (by simp) (by rw [hx]; exact .inl rfl)]; rfl⟩
  · exact ⟨f, line, col + 1, acc, hy, by simp, by rw [lexL_blank _ _ _ _ _ (by simp) (by rw [hx]; exact .inr rfl)]; rfl⟩
  · exact ⟨f, line + 1, 1, acc, hy, by simp, by rw [lexL_feed _ _ _ _ _ (by simp) (by rw [hx]; rfl)]; rfl⟩
/-- behind it stands something that ends a word -/
def Sep (b : UInt8) : Prop := b.toNat < 128 ∧ nameRune (b.toNat : Int) = false
theorem kt_snoc (acc : List Wd) (x : Wd) : kt (acc ++ [x]) = kt acc ++ [(x.kind, x.text)] := by simp [kt]
theorem lex_one (k : Int) (t y : List UInt8) (f line col : Nat) (acc : List Wd) (hf : (t ++ y).length ≤ f) (ht : t ≠ []) (hb : begins (t ++ y)) (hk : (headW (t ++ y)).1 = k) (hl : (headW (t ++ y)).2.1 = t.length) (hr : rightL k t (nx (t ++ y)).1 = true) :
    (lexL f (t ++ y) line col acc).2.2 ≠ 0 ∨ ∃ f' line' col' acc', y.length ≤ f' ∧ kt acc' = kt acc ++ [(k, t)] ∧ lexL f (t ++ y) line col acc = lexL f' y line' col' acc' := by
  have hp := List.length_pos_iff.2 ht
  obtain ⟨f, rfl⟩ : ∃ f', f = f' + 1 := ⟨f - 1, by rw [List.length_append] at hf; omega⟩
  have htk : (t ++ y).take t.length = t := by simp
  have htd : (t ++ y).drop t.length = y := by simp
  rw [lexL_word _ _ _ _ _ hb, hl, htk, htd, hk, if_neg (by rw [hr]; decide)]
  by_cases ha : acc.length = 4000
  · rw [if_pos ha]; left; show (4 : Int) ≠ 0; decide
  · rw [if_neg ha]
    exact .inr ⟨f, _, _, _, by rw [List.length_append] at hf; omega, kt_snoc _ _, rfl⟩
theorem Lx.sign (b : UInt8) (hb : b.toNat < 128) (h : signR (b.toNat : Int) = true) : Lx [b] [(3, [b])] := by
  intro y f line col acc hf
  have hx : nx ([b] ++ y) = ((b.toNat : Int), 1) := nx_ascii b y hb
  have hs := h
  unfold signR at hs
  rw [decide_eq_true_iff] at hs
  have hL : ¬ isLetter (b.toNat : Int) = true := by unfold isLetter; rw [decide_eq_true_iff]; omega
  have hD : ¬ isDigit (b.toNat : Int) = true := by unfold isDigit; rw [decide_eq_true_iff]; omega
  have hhw : headW ([b] ++ y) = (3, 1, 1) := by unfold headW; rw [hx, if_neg hL, if_neg hD]
  refine lex_one 3 [b] y f line col acc hf (by simp) ⟨by simp, by rw [hx]; show (b.toNat : Int) ≠ 10; omega, by rw [hx]; show (b.toNat : Int) ≠ 32; omega, by rw [hx]; show (b.toNat : Int) ≠ 9; omega, by rw [hx]; rintro ⟨e, _⟩; have e : (b.toNat : Int) = 47 := e; omega⟩ (by rw [hhw]) (by rw [hhw]; rfl) ?_
  rw [hx]; unfold rightL
  rw [if_neg (by decide), if_neg (by decide)]; exact h
theorem sep_stop {b : UInt8} (h : Sep b) (y : List UInt8) : Stop (b :: y) ∧ Ends (b :: y) :=
  ⟨.inr ⟨b, y, rfl, h.1⟩, .inr (by rw [nx_ascii b y h.1]; exact h.2)⟩
/-- a word with something behind it that ends it -/
theorem Lx.word (k : Int) (t : List UInt8) (hk : k = 1 ∨ k = 2) (hw : WordOK ⟨k, t, 0, 0⟩) (ht : t ≠ []) {b : UInt8} (hb : Sep b) {a : List UInt8} {v : KT} (h : Lx (b :: a) v) : Lx (t ++ b :: a) ((k, t) :: v) := by
  intro y f line col acc hf
  obtain ⟨s1, s2⟩ := sep_stop hb (a ++ y)
  obtain ⟨b1, b2⟩ : Stop [32] ∧ Ends [32] := sep_stop (b := 32) ⟨by decide, by decide⟩ []
  obtain ⟨r1, r2, r3, r4⟩ := read_word ⟨k, t, 0, 0⟩ [] hw
  simp only at r1 r2 r3 r4
  have e1 : t ++ b :: a ++ y = t ++ b :: (a ++ y) := by simp
  rw [e1] at hf ⊢
  have n1 := (nx_stop t _ ht s1).1
  have n2 := (nx_stop t _ ht b1).1
  have g1 := head_stop t _ ht s1 s2
  have g2 := head_stop t _ ht b1 b2
  rw [g2] at r2 r3
  rw [n2] at r4
  have hkr : (nx t).1 ≠ 47 := by
    intro e
    have q : (headW t).1 = 3 := by
      unfold headW
      rw [e, if_neg (by decide), if_neg (by decide)]
    omega
  have hbg : begins (t ++ b :: (a ++ y)) := by
    obtain ⟨_, p1, p2, p3, _⟩ := r1
    rw [n2] at p1 p2 p3
    exact ⟨by simp, by rw [n1]; exact p1, by rw [n1]; exact p2, by rw [n1]; exact p3, by rw [n1]; exact fun e => hkr e.1⟩
  rcases lex_one k t (b :: (a ++ y)) f line col acc hf ht hbg (by rw [g1]; exact r2) (by rw [g1]; exact r3) (by rw [n1]; exact r4) with h1 | ⟨f1, l1, c1, a1, k1, k2, k3⟩
  · exact .inl h1
  · rw [k3]
    rcases h y f1 l1 c1 a1 (by simpa using k1) with h1 | ⟨f2, l2, c2, a2, j1, j2, j3⟩
    · exact .inl h1
    · exact .inr ⟨f2, l2, c2, a2, j1, by rw [j2, k2, List.append_assoc]; rfl, j3⟩
theorem name_ok {t : List UInt8} (h : nameOf (runes ⟨t.toArray⟩) = true) : WordOK ⟨1, t, 0, 0⟩ ∧ t ≠ [] := by
  refine ⟨.inl ⟨rfl, _, name_bytes t h, h⟩, ?_⟩
  rintro rfl
  revert h; decide
theorem Lx.name {t : List UInt8} (h : nameOf (runes ⟨t.toArray⟩) = true) {b : UInt8} (hb : Sep b) {a : List UInt8} {v : KT} (hv : Lx (b :: a) v) : Lx (t ++ b :: a) ((1, t) :: v) :=
  Lx.word 1 t (.inl rfl) (name_ok h).1 (name_ok h).2 hb hv
theorem Lx.cons {b : UInt8} {a : List UInt8} {u v : KT} (h1 : Lx [b] u) (h2 : Lx a v) : Lx (b :: a) (u ++ v) := h1.app h2
theorem Lx.bl {a : List UInt8} {v : KT} (b : UInt8) (h : b = 32 ∨ b = 9 ∨ b = 10) (h2 : Lx a v) : Lx (b :: a) v := (Lx.blank b h).cons h2
theorem Lx.sg {a : List UInt8} {v : KT} (b : UInt8) (h : b.toNat < 128 ∧ signR (b.toNat : Int) = true) (h2 : Lx a v) : Lx (b :: a) ((3, [b]) :: v) := (Lx.sign b h.1 h.2).cons h2
theorem Lx.tabs {a : List UInt8} {v : KT} (h : Lx a v) : ∀ k : Nat, Lx (tb k ++ a) v
  | 0 => h
  | k + 1 => by
    show Lx ((List.replicate (k + 1) 9) ++ a) v
    rw [List.replicate_succ]
    exact (Lx.tabs h k).bl 9 (by decide)
/-! numbers -/
theorem dig_ok : ∀ u : Nat, u < 10 → isDig (UInt8.ofNat (48 + u)) = true ∧ ((UInt8.ofNat (48 + u)).toNat : Int) = 48 + u := by decide
theorem digits_all (u : Nat) : (Lib.decDigits u).all isDig = true ∧ numV 0 (Lib.decDigits u) = (u : Int) ∧ Lib.decDigits u ≠ [] ∧ ((Lib.decDigits u).head? = some 48 → u = 0) := by
  induction u using Nat.strongRecOn with
  | _ u ih =>
    by_cases h : u < 10
    · obtain ⟨d1, d2⟩ := dig_ok u h
      rw [Lib.decDigits_one h]
      refine ⟨by rw [List.all_cons, d1]; rfl, by simp only [numV, List.foldl_cons, List.foldl_nil, d2]; omega, by simp, fun e => ?_⟩
      have e' : UInt8.ofNat (48 + u) = 48 := by simpa using e
      rw [e'] at d2
      have : (48 : Int) = 48 + u := d2
      omega
    · obtain ⟨i1, i2, i3, i4⟩ := ih (u / 10) (by omega)
      obtain ⟨d1, d2⟩ := dig_ok (u % 10) (by omega)
      rw [Lib.decDigits, dif_neg h]
      refine ⟨by rw [List.all_append, i1, List.all_cons, d1]; rfl, ?_, by simp, ?_⟩
      · unfold numV at i2 ⊢
        rw [List.foldl_append, i2]
        simp only [List.foldl_cons, List.foldl_nil, d2]
        omega
      · have hh : (Lib.decDigits (u / 10) ++ [UInt8.ofNat (48 + u % 10)]).head? = (Lib.decDigits (u / 10)).head? := by
          cases hq : Lib.decDigits (u / 10) with
          | nil => exact absurd hq i3
          | cons a t => rfl
        rw [hh]
        intro e
        have := i4 e
        omega
theorem num_ok {n : Int} (h : numOK n = true) : ((Lib.itoa n).all isDig && numL (Lib.itoa n)) = true ∧ numV 0 (Lib.itoa n) = n ∧ Lib.itoa n ≠ [] := by
  unfold numOK at h
  rw [decide_eq_true_iff] at h
  obtain ⟨u, rfl⟩ : ∃ u : Nat, n = u := ⟨n.toNat, by omega⟩
  obtain ⟨d1, d2, d3, d4⟩ := digits_all u
  have hlen : (Lib.decDigits u).length ≤ 10 := by
    rw [Lib.decDigits_length]
    have := h.2
    by_cases h9 : u < 10 ^ 9
    · by_cases hz : Lib.nDigits u ≤ 10
      · exact hz
      · exfalso
        have hm : ∀ k u, 10 ^ k ≤ u → k + 1 ≤ Lib.nDigits u := by
          intro k
          induction k with
          | zero => intro u _; exact Lib.nDigits_pos u
          | succ k ih =>
            intro u hu
            have hp : 1 ≤ 10 ^ k := Nat.one_le_pow _ _ (by decide)
            rw [Nat.pow_succ] at hu
            rw [Lib.nDigits_big (by omega)]
            have := ih (u / 10) (by omega)
            omega
        have hM : ∀ k u, k + 1 ≤ Lib.nDigits u → 1 ≤ k → 10 ^ k ≤ u := by
          intro k
          induction k with
          | zero => intro u _ h; omega
          | succ k ih =>
            intro u hu _
            by_cases hs : u < 10
            · rw [Lib.nDigits_small hs] at hu; omega
            · rw [Lib.nDigits_big hs] at hu
              rw [Nat.pow_succ]
              by_cases hk : k = 0
              · subst hk; omega
              · have := ih (u / 10) (by omega) (by omega); omega
        have := hM 10 u (by omega) (by omega)
        omega
    · have := Lib.nDigits_unique 9 u (by omega) (by omega)
      omega
  rw [Lib.itoa_nonneg]
  refine ⟨?_, d2, d3⟩
  rw [d1, Bool.true_and]
  unfold numL
  rw [d2]
  have h2 : decide ((u : Int) ≤ 2147483647) = true := by rw [decide_eq_true_iff]; exact h.2
  rw [h2, decide_eq_true hlen, Bool.true_and, Bool.and_true]
  by_cases h48 : (Lib.decDigits u).head? = some 48
  · have := d4 h48
    subst this
    rw [Lib.decDigits_one (by decide)]
    decide
  · rw [decide_eq_false h48]; rfl
theorem Lx.num {n : Int} (h : numOK n = true) {b : UInt8} (hb : Sep b) {a : List UInt8} {v : KT} (hv : Lx (b :: a) v) : Lx (Lib.itoa n ++ b :: a) ((2, Lib.itoa n) :: v) := by
  obtain ⟨h1, h2, h3⟩ := num_ok h
  have hd := (Bool.and_eq_true _ _ ▸ h1).1
  obtain ⟨e1, e2⟩ := digits_enc _ hd
  exact Lx.word 2 _ (.inr rfl) (.inr (.inl ⟨rfl, ⟨_, e1, by intro e; exact h3 (List.map_eq_nil_iff.1 e), e2⟩, h1⟩)) h3 hb hv
/-! paths -/
theorem Lx.jn {b : UInt8} (hb : Sep b) {a : List UInt8} {v : KT} (hv : Lx (b :: a) v) : ∀ L : List (List UInt8), L ≠ [] → (∀ x ∈ L, nameOf (runes ⟨x.toArray⟩) = true) → Lx (jn L ++ b :: a) (pW L ++ v)
  | [], h, _ => absurd rfl h
  | [x], _, h => Lx.name (h x List.mem_cons_self) hb hv
  | x :: y :: t, _, h => by
    have ih := Lx.jn hb hv (y :: t) (by simp) (fun z hz => h z (List.mem_cons_of_mem _ hz))
    have e : Go.Proofs.YtngmimbpakmkiaaGreatDoor.jn (x :: y :: t) ++ b :: a = x ++ 46 :: (Go.Proofs.YtngmimbpakmkiaaGreatDoor.jn (y :: t) ++ b :: a) := by
      rw [jn_cons _ _ (by simp)]; simp
    rw [e, pW_cons _ _ (by simp)]
    exact Lx.name (h x List.mem_cons_self) ⟨by decide, by decide⟩ (ih.sg 46 (by decide))
theorem pcs_ne (l cur : List UInt8) : pcs cur l ≠ [] := by
  intro e
  have := (pcs_len l cur).1
  rw [e] at this; simp at this
theorem path_names {l : List UInt8} (h : pathOK l = true) : (pcs [] l).length ≤ 8 ∧ ∀ x ∈ pcs [] l, plainL x = true := by
  unfold pathOK at h
  simpa using h
theorem scalar_one {l : List UInt8} (h : 0 < scalarOf l) : pcs [] l = [l] ∧ nameOf (runes ⟨l.toArray⟩) = true ∧ resOf l = true := by
  refine ⟨?_, ?_, by unfold resOf; simp [h]⟩
  · unfold scalarOf at h
    repeat' split at h
    all_goals first | (rename_i hh; have hh := eq_of_beq hh; subst hh; decide) | simp at h
  · unfold scalarOf at h
    repeat' split at h
    all_goals first | (rename_i hh; have hh := eq_of_beq hh; subst hh; decide +kernel) | simp at h
theorem Lx.path {l : List UInt8} (h : pathOK l = true) {b : UInt8} (hb : Sep b) {a : List UInt8} {v : KT} (hv : Lx (b :: a) v) : Lx (l ++ b :: a) (pW (pcs [] l) ++ v) := by
  have := Lx.jn hb hv (pcs [] l) (pcs_ne _ _) (fun x hx => (plainL_name ((path_names h).2 x hx)).1)
  rw [jn_pcs, List.nil_append] at this
  exact this
theorem Lx.type {l : List UInt8} (h : typeOK l = true) {b : UInt8} (hb : Sep b) {a : List UInt8} {v : KT} (hv : Lx (b :: a) v) : Lx (l ++ b :: a) (pW (pcs [] l) ++ v) := by
  unfold typeOK at h
  rw [Bool.or_eq_true] at h
  rcases h with h | h
  · obtain ⟨e, hn, _⟩ := scalar_one (of_decide_eq_true h)
    rw [e]
    exact Lx.name hn hb hv
  · exact Lx.path h hb hv
abbrev sp32 : Sep 32 := ⟨by decide, by decide⟩
abbrev sp40 : Sep 40 := ⟨by decide, by decide⟩
abbrev sp41 : Sep 41 := ⟨by decide, by decide⟩
abbrev sp59 : Sep 59 := ⟨by decide, by decide⟩
theorem lx_tail {n : Int} (h : numOK n = true) {t : List UInt8} (ht : plainL t = true) : Lx (t ++ 32 :: 61 :: 32 :: (Lib.itoa n ++ [59, 10])) [(1, t), (3, [61]), (2, Lib.itoa n), (3, [59])] :=
  Lx.name (plainL_name ht).1 sp32 (((Lx.num h sp59 ((Lx.nil.bl 10 (by decide)).sg 59 (by decide))).bl 32 (by decide)).sg 61 (by decide) |>.bl 32 (by decide))
theorem lx_field {k : Nat} {x : Fd} (h : fOK x = true) : Lx (fT k x) (fW x) := by
  unfold fOK at h
  simp only [Bool.and_eq_true] at h
  obtain ⟨⟨h1, h2⟩, h3⟩ := h
  have ht := Lx.type h1 sp32 ((lx_tail h3 h2).bl 32 (by decide))
  unfold fT fW
  refine Lx.tabs ?_ k
  by_cases hr : x.rep = true
  · rw [if_pos hr, if_pos hr]
    have e : (tRepeated ++ [32]) ++ (x.type ++ 32 :: (x.name ++ 32 :: 61 :: 32 :: (Lib.itoa x.num ++ [59, 10]))) = tRepeated ++ 32 :: (x.type ++ 32 :: (x.name ++ 32 :: 61 :: 32 :: (Lib.itoa x.num ++ [59, 10]))) := by simp
    rw [e]
    exact Lx.name (by decide +kernel) sp32 (ht.bl 32 (by decide))
  · rw [if_neg hr, if_neg hr]
    exact ht
theorem lx_value {k : Nat} {x : Vl} (h : vOK x = true) : Lx (vT k x) (vW x) := by
  unfold vOK at h
  simp only [Bool.and_eq_true] at h
  exact Lx.tabs (lx_tail h.2 h.1) k
theorem lx_method {k : Nat} {x : Mt} (h : mOK x = true) : Lx (mT k x) (mW x) := by
  unfold mOK at h
  simp only [Bool.and_eq_true] at h
  obtain ⟨⟨h1, h2⟩, h3⟩ := h
  refine Lx.tabs ?_ k
  refine Lx.name (by decide +kernel) sp32 (Lx.bl 32 (by decide) ?_)
  refine Lx.name (plainL_name h1).1 sp40 (Lx.sg 40 (by decide) ?_)
  refine Lx.path h2 sp41 (Lx.sg 41 (by decide) (Lx.bl 32 (by decide) ?_))
  refine Lx.name (by decide +kernel) sp32 (Lx.bl 32 (by decide) (Lx.sg 40 (by decide) ?_))
  exact Lx.path h3 sp41 (Lx.sg 41 (by decide) (Lx.sg 59 (by decide) (Lx.bl 10 (by decide) Lx.nil)))
theorem Lx.flat {α : Type} {g : α → List UInt8} {gw : α → KT} : ∀ (xs : List α), (∀ x ∈ xs, Lx (g x) (gw x)) → Lx (xs.flatMap g) (xs.flatMap gw)
  | [], _ => Lx.nil
  | x :: t, h => by
    rw [List.flatMap_cons, List.flatMap_cons]
    exact (h x List.mem_cons_self).app (Lx.flat t fun y hy => h y (List.mem_cons_of_mem _ hy))
theorem kind_word (k : Int) : nameOf (runes ⟨(kindT k).toArray⟩) = true := by
  unfold kindT
  split
  · decide +kernel
  · split <;> decide +kernel
theorem fmD_parts {f k : Nat} {d : Dc} (h : fmD f k d = true) : plainL d.name = true ∧ (d.kind = 1 ∨ d.kind = 2 ∨ d.kind = 3) ∧ (d.fields.all fOK = true) ∧ (d.values.all vOK = true) ∧ (d.methods.all mOK = true) ∧ (d.kind = 1 → k < 8 ∧ fmL f (k + 1) d.inner = true ∧ d.values = [] ∧ d.methods = []) ∧ (d.kind ≠ 1 → d.inner = [] ∧ d.fields = []) ∧ (d.kind = 3 → k = 0 ∧ d.values = []) ∧ (d.kind = 2 → d.methods = []) := by
  unfold fmD at h
  rw [Bool.and_eq_true] at h
  obtain ⟨h0, h⟩ := h
  refine ⟨h0, ?_⟩
  by_cases h1 : d.kind = 1
  · rw [if_pos h1] at h
    simp only [Bool.and_eq_true, List.isEmpty_iff, decide_eq_true_iff] at h
    obtain ⟨⟨⟨⟨a, b⟩, c⟩, e⟩, g⟩ := h
    exact ⟨.inl h1, e, by rw [b]; rfl, by rw [c]; rfl, fun _ => ⟨a, g, b, c⟩, fun n => absurd h1 n, fun n => by omega, fun n => by omega⟩
  · rw [if_neg h1] at h
    by_cases h2 : d.kind = 2
    · rw [if_pos h2] at h
      simp only [Bool.and_eq_true, List.isEmpty_iff] at h
      obtain ⟨⟨⟨a, b⟩, c⟩, e⟩ := h
      exact ⟨.inr (.inl h2), by rw [a]; rfl, e, by rw [b]; rfl, fun n => absurd n h1, fun _ => ⟨c, a⟩, fun n => by omega, fun _ => b⟩
    · rw [if_neg h2] at h
      by_cases h3 : d.kind = 3
      · rw [if_pos h3] at h
        simp only [Bool.and_eq_true, List.isEmpty_iff, decide_eq_true_iff] at h
        obtain ⟨⟨⟨⟨a, b⟩, c⟩, e⟩, g⟩ := h
        exact ⟨.inr (.inr h3), by rw [b]; rfl, by rw [c]; rfl, g, fun n => absurd n h1, fun _ => ⟨e, b⟩, fun _ => ⟨a, c⟩, fun n => by omega⟩
      · rw [if_neg h3] at h; cases h
theorem fm_inner {f k : Nat} {d : Dc} (h : fmD f k d = true) : fmL f (k + 1) d.inner = true := by
  obtain ⟨_, hk, _, _, _, h1, h2, _⟩ := fmD_parts h
  by_cases h' : d.kind = 1
  · exact (h1 h').2.1
  · rw [(h2 h').1]; cases f <;> rfl
theorem lx_decl : ∀ (f k k' : Nat) (d : Dc), fmD f k d = true → Lx (dT (f + 1) k' d) (dW (f + 1) d) := by
  intro f
  induction f with
  | zero =>
    intro k k' d h
    obtain ⟨h0, hk, hf, hv, hm, _⟩ := fmD_parts h
    rw [List.all_eq_true] at hf hv hm
    have e1 : d.inner.flatMap (dT 0 (k' + 1)) = [] := by rw [List.flatMap_eq_nil_iff]; intro x _; rfl
    have e2 : d.inner.flatMap (dW 0) = [] := by rw [List.flatMap_eq_nil_iff]; intro x _; rfl
    unfold dT dW
    rw [e1, e2]
    refine Lx.app (a := tb k' ++ (kindT d.kind ++ 32 :: (d.name ++ [32, 123, 10]))) (u := [(1, kindT d.kind), (1, d.name), (3, [123])]) ?_ ?_
    · refine Lx.tabs (Lx.name (kind_word _) sp32 (Lx.bl 32 (by decide) ?_)) k'
      exact Lx.name (plainL_name h0).1 sp32 (Lx.bl 32 (by decide) (Lx.sg 123 (by decide) (Lx.bl 10 (by decide) Lx.nil)))
    · refine (Lx.flat _ fun x hx => lx_field (hf x hx)).app ((Lx.flat _ fun x hx => lx_value (hv x hx)).app ((Lx.flat _ fun x hx => lx_method (hm x hx)).app (Lx.nil.app ?_)))
      exact Lx.tabs (Lx.sg 125 (by decide) (Lx.bl 10 (by decide) Lx.nil)) k'
  | succ f ih =>
    intro k k' d h
    have hin := fm_inner h
    obtain ⟨h0, hk, hf, hv, hm, _⟩ := fmD_parts h
    rw [List.all_eq_true] at hf hv hm
    rw [fmL_succ, List.all_eq_true] at hin
    rw [dT, dW]
    refine Lx.app (a := tb k' ++ (kindT d.kind ++ 32 :: (d.name ++ [32, 123, 10]))) (u := [(1, kindT d.kind), (1, d.name), (3, [123])]) ?_ ?_
    · refine Lx.tabs (Lx.name (kind_word _) sp32 (Lx.bl 32 (by decide) ?_)) k'
      exact Lx.name (plainL_name h0).1 sp32 (Lx.bl 32 (by decide) (Lx.sg 123 (by decide) (Lx.bl 10 (by decide) Lx.nil)))
    · refine (Lx.flat _ fun x hx => lx_field (hf x hx)).app ((Lx.flat _ fun x hx => lx_value (hv x hx)).app ((Lx.flat _ fun x hx => lx_method (hm x hx)).app ((Lx.flat _ fun x hx => ih (k + 1) (k' + 1) x (hin x hx)).app ?_)))
      exact Lx.tabs (Lx.sg 125 (by decide) (Lx.bl 10 (by decide) Lx.nil)) k'
theorem lx_text (f : Nat) : ∀ ds : List Dc, fmL (f + 1) 0 ds = true → Lx (textL (f + 1) ds) (ds.flatMap (dW (f + 1)))
  | [], _ => Lx.nil
  | d :: t, h => by
    rw [fmL_succ, List.all_eq_true] at h
    unfold textL
    rw [List.flatMap_cons]
    exact (lx_decl f 0 0 d (h d List.mem_cons_self)).app (Lx.flat t fun x hx => (lx_decl f 0 0 x (h x (List.mem_cons_of_mem _ hx))).bl 10 (by decide))
/-- the words of the text of declarations, if it isn't too long -/
theorem words_text (f : Nat) (ds : List Dc) (h : fmL (f + 1) 0 ds = true) (he : (wordsL (textL (f + 1) ds)).2.2 = 0) : kt (wordsL (textL (f + 1) ds)).1 = ds.flatMap (dW (f + 1)) := by
  unfold wordsL at he ⊢
  split at he
  · cases he
  · rename_i hl
    rw [if_neg hl]
    rcases lx_text f ds h [] (textL (f + 1) ds).length 1 1 [] (by simp) with h1 | ⟨f', l', c', a', g1, g2, g3⟩
    · rw [List.append_nil] at h1; exact absurd he h1
    · rw [List.append_nil] at g3
      rw [g3, lexL_end, g2]; rfl
end Go.Proofs.YtngmimbpakmkiaaGreatDoor
namespace Go.Proofs.YtngmimbpakmkiaaGreatDoor
set_option linter.unusedVariables false

/-- the reader has these words, and no error -/
def At (r : Rd) (u : KT) : Prop := r.e = 0 ∧ kt r.l = u
section
variable {en : Int × Int} {r : Rd} {u : KT} {k : Int} {t : List UInt8}
theorem At.cons (h : At r ((k, t) :: u)) : ∃ x l, r.l = x :: l ∧ x.kind = k ∧ x.text = t ∧ kt l = u := by
  obtain ⟨_, h⟩ := h
  cases hl : r.l with
  | nil => rw [hl] at h; cases h
  | cons x l =>
    rw [hl] at h
    simp only [kt, List.map_cons, List.cons.injEq, Prod.mk.injEq] at h
    exact ⟨x, l, rfl, h.1.1, h.1.2, h.2⟩
theorem At.is (h : At r ((k, t) :: u)) (s : List UInt8) : r.is s = (t == s) := by
  obtain ⟨x, l, h1, h2, h3, h4⟩ := h.cons
  unfold Rd.is
  rw [h1, h.1]
  simp [h3]
theorem At.is_nil (h : At r []) (s : List UInt8) : r.is s = false := by
  have hl : r.l = [] := by
    have := h.2
    unfold kt at this
    exact List.map_eq_nil_iff.1 this
  unfold Rd.is
  rw [hl, h.1]; rfl
theorem At.tail (h : At r ((k, t) :: u)) : At r.tail u := by
  obtain ⟨x, l, h1, h2, h3, h4⟩ := h.cons
  unfold Rd.tail
  rw [h1]
  exact ⟨h.1, h4⟩
theorem At.take (h : At r ((k, t) :: u)) : At (r.take en t) u := by
  unfold Rd.take
  rw [if_pos (by rw [h.is]; simp)]
  exact h.tail
theorem At.text (h : At r ((k, t) :: u)) : r.text = t := by
  obtain ⟨x, l, h1, h2, h3, h4⟩ := h.cons
  unfold Rd.text
  rw [h1]; exact h3
theorem At.isName (h : At r ((1, t) :: u)) (hr : resOf t = false) : r.isName = true := by
  obtain ⟨x, l, h1, h2, h3, h4⟩ := h.cons
  unfold Rd.isName
  rw [h1, h.1]
  simp [h2, h3, hr]
theorem At.name (h : At r ((1, t) :: u)) (hr : resOf t = false) : At (r.name en) u ∧ r.nameT = t := by
  unfold Rd.name Rd.nameT
  rw [if_pos (h.isName hr), if_pos (h.isName hr)]
  exact ⟨h.tail, h.text⟩
theorem At.number (h : At r ((2, t) :: u)) : At (r.number en) u ∧ r.numberV = numV 0 t := by
  obtain ⟨x, l, h1, h2, h3, h4⟩ := h.cons
  have hn : r.isNum = true := by
    unfold Rd.isNum
    rw [h1, h.1]; simp [h2]
  unfold Rd.number Rd.numberV
  rw [if_pos hn, if_pos hn]
  exact ⟨h.tail, by rw [h.text]⟩
theorem At.isScal (h : At r ((k, t) :: u)) : r.isScal = decide (0 < scalarOf t) := by
  obtain ⟨x, l, h1, h2, h3, h4⟩ := h.cons
  unfold Rd.isScal
  rw [h1, h.1]; simp [h3]
theorem At.len (h : At r u) : r.l.length = u.length := by
  rw [← h.2]; simp [kt]
/-- the rest of a path -/
def dotW (L : List (List UInt8)) : KT := L.flatMap fun x => [(3, [46]), (1, x)]
theorem pW_dot : ∀ (x : List UInt8) (L : List (List UInt8)), pW (x :: L) = (1, x) :: dotW L
  | x, [] => rfl
  | x, y :: t => by rw [pW, pW_dot y t]; rfl
theorem jn_dot : ∀ (x : List UInt8) (L : List (List UInt8)), jn (x :: L) = x ++ L.flatMap fun y => 46 :: y
  | x, [] => by simp [jn]
  | x, y :: t => by rw [jn, jn_dot y t]; simp
/-- what comes next goes on no path -/
def NoDot (u : KT) : Prop := ∀ k t u', u = (k, t) :: u' → t ≠ [46]
theorem at_pathL {en first : Int × Int} : ∀ (L : List (List UInt8)) (f n : Nat) (s : List UInt8) (r : Rd) (u : KT), At r (dotW L ++ u) → NoDot u → L.length < f → n + L.length ≤ 8 → (∀ x ∈ L, resOf x = false) →
    (pathL en first f n s r).1 = s ++ (L.flatMap fun y => 46 :: y) ∧ At (pathL en first f n s r).2 u
  | [], f, n, s, r, u, h, hu, hf, hn, hp => by
    obtain ⟨f, rfl⟩ : ∃ f', f = f' + 1 := ⟨f - 1, by simp at hf; omega⟩
    have h' : At r u := h
    have hi : r.is [46] = false := by
      cases u with
      | nil => exact h'.is_nil _
      | cons a u =>
        obtain ⟨k, t⟩ := a
        rw [h'.is]
        have := hu k t u rfl
        simpa using this
    rw [pathL, if_neg (by rw [hi]; decide)]
    exact ⟨by simp, h'⟩
  | x :: L, f, n, s, r, u, h, hu, hf, hn, hp => by
    obtain ⟨f, rfl⟩ : ∃ f', f = f' + 1 := ⟨f - 1, by simp at hf; omega⟩
    have h1 : At r ((3, [46]) :: (1, x) :: (dotW L ++ u)) := h
    have h2 := h1.take (en := en)
    obtain ⟨h3, h4⟩ := h2.name (en := en) (hp x List.mem_cons_self)
    simp only [List.length_cons] at hf hn
    rw [pathL_on _ _ _ _ _ _ (by rw [h1.is]; rfl), if_neg (by omega), h4]
    obtain ⟨i1, i2⟩ := at_pathL L f (n + 1) (s ++ [46] ++ x) _ u h3 hu (by omega) (by omega) (fun y hy => hp y (List.mem_cons_of_mem _ hy))
    exact ⟨by rw [i1]; simp, i2⟩
theorem At.path {L : List (List UInt8)} (h : At r (pW L ++ u)) (hu : NoDot u) (hL : L ≠ []) (h8 : L.length ≤ 8) (hp : ∀ x ∈ L, resOf x = false) : (r.path en).1 = jn L ∧ At (r.path en).2 u := by
  cases L with
  | nil => exact absurd rfl hL
  | cons x L =>
    rw [pW_dot] at h
    have h0 : At r ((1, x) :: (dotW L ++ u)) := h
    obtain ⟨h1, h2⟩ := h0.name (en := en) (hp x List.mem_cons_self)
    have hlen := h0.len
    simp only [List.length_cons, List.length_append] at hlen h8
    have hdl : L.length ≤ (dotW L).length := by
      have : ∀ L : List (List UInt8), (dotW L).length = 2 * L.length := by
        intro L
        induction L with
        | nil => rfl
        | cons a t ih => unfold dotW at ih ⊢; rw [List.flatMap_cons, List.length_append, ih]; simp; omega
      rw [this]; omega
    unfold Rd.path
    rw [h2, jn_dot]
    exact at_pathL L _ 1 x _ u h1 hu (by omega) (by omega) (fun y hy => hp y (List.mem_cons_of_mem _ hy))
theorem At.typ {ty : List UInt8} (hty : typeOK ty = true) (h : At r (pW (pcs [] ty) ++ u)) (hu : NoDot u) : (r.typ en).1 = ty ∧ At (r.typ en).2 u := by
  unfold typeOK at hty
  rw [Bool.or_eq_true] at hty
  by_cases hs : 0 < scalarOf ty
  · obtain ⟨e, _, _⟩ := scalar_one hs
    rw [e] at h
    have h0 : At r ((1, ty) :: u) := h
    unfold Rd.typ
    rw [if_pos (by rw [h0.isScal]; exact decide_eq_true hs)]
    exact ⟨h0.text, h0.tail⟩
  · have hp : pathOK ty = true := by
      rcases hty with h1 | h1
      · exact absurd (of_decide_eq_true h1) hs
      · exact h1
    obtain ⟨h8, hpl⟩ := path_names hp
    have hpn : ∀ x ∈ pcs [] ty, resOf x = false := fun x hx => (plainL_name (hpl x hx)).2
    unfold Rd.typ
    have hsc : r.isScal = false := by
      cases hL : pcs [] ty with
      | nil => exact absurd hL (pcs_ne _ _)
      | cons x L =>
        rw [hL, pW_dot] at h
        have h0 : At r ((1, x) :: (dotW L ++ u)) := h
        rw [h0.isScal]
        have := hpn x (by rw [hL]; exact List.mem_cons_self)
        unfold resOf at this
        simp only [Bool.or_eq_false_iff] at this
        exact this.2
    rw [if_neg (by rw [hsc]; decide)]
    obtain ⟨i1, i2⟩ := h.path (en := en) hu (pcs_ne _ _) h8 hpn
    exact ⟨by rw [i1, jn_pcs]; rfl, i2⟩
theorem nodot_cons {k : Int} {t : List UInt8} {u : KT} (h : t ≠ [46]) : NoDot ((k, t) :: u) := by
  intro k' t' u' e
  simp only [List.cons.injEq, Prod.mk.injEq] at e
  rw [← e.1.2]; exact h
theorem plain_ne {l : List UInt8} (h : plainL l = true) (s : List UInt8) (hs : plainL s = false) : l ≠ s := by
  rintro rfl; rw [h] at hs; cases hs
/-- the first word of a type -/
theorem type_head {ty : List UInt8} (hty : typeOK ty = true) : ∃ x L, pcs [] ty = x :: L ∧ (plainL x = true ∨ 0 < scalarOf x) := by
  unfold typeOK at hty
  rw [Bool.or_eq_true] at hty
  rcases hty with h | h
  · have h := of_decide_eq_true h
    exact ⟨ty, [], (scalar_one h).1, .inr h⟩
  · cases hL : pcs [] ty with
    | nil => exact absurd hL (pcs_ne _ _)
    | cons x L => exact ⟨x, L, rfl, .inl ((path_names h).2 x (by rw [hL]; exact List.mem_cons_self))⟩
theorem head_ne {x : List UInt8} (h : plainL x = true ∨ 0 < scalarOf x) (s : List UInt8) (h1 : plainL s = false) (h2 : scalarOf s = 0) : x ≠ s := by
  rintro rfl
  rcases h with h | h
  · rw [h] at h1; cases h1
  · omega
theorem beq_ne {a b : List UInt8} (h : a ≠ b) : (a == b) = false := by simpa using h
theorem pl_message : plainL tMessage = false := by decide +kernel
theorem pl_enum : plainL tEnum = false := by decide +kernel
theorem pl_repeated : plainL tRepeated = false := by decide +kernel
theorem pl_close : plainL [125] = false := by decide +kernel
theorem pl_dot : plainL [46] = false := by decide +kernel
/-- how a field begins -/
theorem field_head {x : Fd} (hx : fOK x = true) (u : KT) : ∃ t v, fW x ++ u = (1, t) :: v ∧ t ≠ tMessage ∧ t ≠ tEnum ∧ t ≠ [125] ∧ (x.rep = false → t ≠ tRepeated) := by
  unfold fOK at hx
  simp only [Bool.and_eq_true] at hx
  obtain ⟨y, L, hL, hy⟩ := type_head hx.1.1
  unfold fW
  by_cases hr : x.rep = true
  · rw [if_pos hr]
    exact ⟨tRepeated, _, rfl, by decide, by decide, by decide, fun e => by rw [hr] at e; cases e⟩
  · rw [if_neg hr, hL, pW_dot]
    exact ⟨y, _, rfl, head_ne hy _ pl_message (by decide), head_ne hy _ pl_enum (by decide), head_ne hy _ pl_close (by decide), fun _ => head_ne hy _ pl_repeated (by decide)⟩
theorem at_tail {nm : List UInt8} {n : Int} (hp : plainL nm = true) (hn : numOK n = true) (h : At r ((1, nm) :: (3, [61]) :: (2, Lib.itoa n) :: (3, [59]) :: u)) :
    r.nameT = nm ∧ ((r.name en).take en [61]).numberV = n ∧ At ((((r.name en).take en [61]).number en).take en [59]) u := by
  obtain ⟨h1, h2⟩ := h.name (en := en) (plainL_name hp).2
  have h3 := h1.take (en := en)
  obtain ⟨h4, h5⟩ := h3.number (en := en)
  exact ⟨h2, by rw [h5]; exact (num_ok hn).2.1, h4.take⟩
theorem At.field {x : Fd} (hx : fOK x = true) (h : At r (fW x ++ u)) : sF (r.field en).1 = sF x ∧ At (r.field en).2 u := by
  obtain ⟨t, v, hv, _, _, _, hrep⟩ := field_head hx u
  have hx' := hx
  unfold fOK at hx'
  simp only [Bool.and_eq_true] at hx'
  obtain ⟨⟨g1, g2⟩, g3⟩ := hx'
  have his : r.is tRepeated = x.rep := by
    rw [hv] at h
    rw [h.is]
    cases hr : x.rep with
    | false => exact beq_ne (hrep hr)
    | true =>
      have : (1, tRepeated) = ((1 : Int), t) := by
        unfold fW at hv
        rw [if_pos hr] at hv
        exact (List.cons.inj hv).1
      have : tRepeated = t := (Prod.mk.inj this).2
      rw [← this]; decide
  have hr1 : At (if r.is tRepeated = true then r.take en tRepeated else r) (pW (pcs [] x.type) ++ ((1, x.name) :: (3, [61]) :: (2, Lib.itoa x.num) :: (3, [59]) :: u)) := by
    rw [his]
    unfold fW at h
    by_cases hr : x.rep = true
    · rw [if_pos hr] at h ⊢
      have h' : At r ((1, tRepeated) :: (pW (pcs [] x.type) ++ ((1, x.name) :: (3, [61]) :: (2, Lib.itoa x.num) :: (3, [59]) :: u))) := by simpa using h
      exact h'.take
    · rw [if_neg hr] at h ⊢
      simpa using h
  unfold Rd.field
  simp only
  generalize (if r.is tRepeated = true then r.take en tRepeated else r) = r1 at *
  obtain ⟨t1, t2⟩ := hr1.typ (en := en) g1 (nodot_cons (plain_ne g2 _ pl_dot))
  obtain ⟨e1, e2, e3⟩ := at_tail (en := en) g2 g3 t2
  refine ⟨?_, e3⟩
  unfold sF
  simp only [t1, e1, e2, his]
theorem At.value {x : Vl} (hx : vOK x = true) (h : At r (vW x ++ u)) : sV (r.value en).1 = sV x ∧ At (r.value en).2 u := by
  unfold vOK at hx
  simp only [Bool.and_eq_true] at hx
  have h0 : At r ((1, x.name) :: (3, [61]) :: (2, Lib.itoa x.num) :: (3, [59]) :: u) := h
  obtain ⟨e1, e2, e3⟩ := at_tail (en := en) hx.1 hx.2 h0
  unfold Rd.value
  simp only
  refine ⟨?_, e3⟩
  unfold sV
  simp only [e1, e2]
theorem path_text {l : List UInt8} : jn (pcs [] l) = l := by rw [jn_pcs]; rfl
theorem At.method {x : Mt} (hx : mOK x = true) (h : At r (mW x ++ u)) : sM (r.method en).1 = sM x ∧ At (r.method en).2 u := by
  unfold mOK at hx
  simp only [Bool.and_eq_true] at hx
  obtain ⟨⟨g1, g2⟩, g3⟩ := hx
  have h0 : At r ((1, tRpc) :: (1, x.name) :: (3, [40]) :: (pW (pcs [] x.inp) ++ ((3, [41]) :: (1, tReturns) :: (3, [40]) :: (pW (pcs [] x.out) ++ ((3, [41]) :: (3, [59]) :: u))))) := by
    unfold mW at h; simpa using h
  have h1 := h0.take (en := en)
  obtain ⟨h2, h3⟩ := h1.name (en := en) (plainL_name g1).2
  have h4 := h2.take (en := en)
  have np : ∀ l, pathOK l = true → ∀ x ∈ pcs [] l, resOf x = false := fun l hl y hy => (plainL_name ((path_names hl).2 y hy)).2
  obtain ⟨h5, h6⟩ := h4.path (en := en) (nodot_cons (by decide)) (pcs_ne _ _) (path_names g2).1 (np _ g2)
  have h7 := ((h6.take (en := en)).take (en := en)).take (en := en)
  obtain ⟨h8, h9⟩ := h7.path (en := en) (nodot_cons (by decide)) (pcs_ne _ _) (path_names g3).1 (np _ g3)
  unfold Rd.method
  simp only
  refine ⟨?_, (h9.take (en := en)).take⟩
  unfold sM
  simp only [h3, h5, h8, path_text]
end
section
variable {en : Int × Int}
theorem at_values : ∀ (vs : List Vl) (f : Nat) (r : Rd) (acc : List Vl) (u : KT), (∀ x ∈ vs, vOK x = true) → At r (vs.flatMap vW ++ (3, [125]) :: u) → vs.length < f →
    (valuesL en f r acc).1.map sV = acc.map sV ++ vs.map sV ∧ At (valuesL en f r acc).2 ((3, [125]) :: u)
  | [], f, r, acc, u, hv, h, hf => by
    obtain ⟨f, rfl⟩ : ∃ f', f = f' + 1 := ⟨f - 1, by simp at hf; omega⟩
    have h' : At r ((3, [125]) :: u) := h
    rw [valuesL, if_neg (by rw [h'.is]; simp)]
    exact ⟨by simp, h'⟩
  | x :: vs, f, r, acc, u, hv, h, hf => by
    obtain ⟨f, rfl⟩ : ∃ f', f = f' + 1 := ⟨f - 1, by simp at hf; omega⟩
    have hx := hv x List.mem_cons_self
    rw [List.flatMap_cons, List.append_assoc] at h
    have hp : plainL x.name = true := by unfold vOK at hx; simp only [Bool.and_eq_true] at hx; exact hx.1
    have h1 : At r ((1, x.name) :: ([(3, [61]), (2, Lib.itoa x.num), (3, [59])] ++ (vs.flatMap vW ++ (3, [125]) :: u))) := h
    rw [valuesL, if_pos ⟨h.1, by rw [h1.is]; exact beq_ne (plain_ne hp _ pl_close)⟩]
    obtain ⟨e1, e2⟩ := h.value (en := en) hx
    obtain ⟨i1, i2⟩ := at_values vs f _ (acc ++ [(r.value en).1]) u (fun y hy => hv y (List.mem_cons_of_mem _ hy)) e2 (by simp at hf; omega)
    exact ⟨by rw [i1]; simp [e1], i2⟩
theorem at_methods : ∀ (vs : List Mt) (f : Nat) (r : Rd) (acc : List Mt) (u : KT), (∀ x ∈ vs, mOK x = true) → At r (vs.flatMap mW ++ (3, [125]) :: u) → vs.length < f →
    (methodsL en f r acc).1.map sM = acc.map sM ++ vs.map sM ∧ At (methodsL en f r acc).2 ((3, [125]) :: u)
  | [], f, r, acc, u, hv, h, hf => by
    obtain ⟨f, rfl⟩ : ∃ f', f = f' + 1 := ⟨f - 1, by simp at hf; omega⟩
    have h' : At r ((3, [125]) :: u) := h
    rw [methodsL, if_neg (by rw [h'.is]; simp)]
    exact ⟨by simp, h'⟩
  | x :: vs, f, r, acc, u, hv, h, hf => by
    obtain ⟨f, rfl⟩ : ∃ f', f = f' + 1 := ⟨f - 1, by simp at hf; omega⟩
    have hx := hv x List.mem_cons_self
    rw [List.flatMap_cons, List.append_assoc] at h
    have h1 : ∃ v, At r ((1, tRpc) :: v) := ⟨_, h⟩
    obtain ⟨v, h1⟩ := h1
    rw [methodsL, if_pos ⟨h.1, by rw [h1.is]; rfl⟩]
    obtain ⟨e1, e2⟩ := h.method (en := en) hx
    obtain ⟨i1, i2⟩ := at_methods vs f _ (acc ++ [(r.method en).1]) u (fun y hy => hv y (List.mem_cons_of_mem _ hy)) e2 (by simp at hf; omega)
    exact ⟨by rw [i1]; simp [e1], i2⟩
theorem flatW_len {α : Type} {g : α → KT} (hg : ∀ x, 1 ≤ (g x).length) : ∀ xs : List α, xs.length ≤ (xs.flatMap g).length
  | [] => by simp
  | x :: t => by
    have := flatW_len hg t
    have := hg x
    rw [List.flatMap_cons, List.length_append, List.length_cons]; omega
theorem fW_len (x : Fd) : 1 ≤ (fW x).length := by unfold fW; simp; omega
theorem vW_len (x : Vl) : 1 ≤ (vW x).length := by unfold vW; simp
theorem mW_len (x : Mt) : 1 ≤ (mW x).length := by unfold mW; simp
theorem dW_len (f : Nat) (d : Dc) : 1 ≤ (dW (f + 1) d).length := by rw [dW]; simp
theorem stripL_nil (g : Nat) : stripL g [] = [] := by cases g <;> rfl
theorem At.enum {f : Nat} {d : Dc} {r : Rd} {u : KT} (hk : d.kind = 2) (hp : plainL d.name = true) (hf : d.fields = []) (hm : d.methods = []) (hi : d.inner = []) (hv : d.values.all vOK = true) (h : At r (dW (f + 1) d ++ u)) :
    DE d (r.enum en).1 ∧ At (r.enum en).2 u := by
  rw [List.all_eq_true] at hv
  have h0 : At r ((1, tEnum) :: (1, d.name) :: (3, [123]) :: (d.values.flatMap vW ++ (3, [125]) :: u)) := by
    rw [dW, hf, hm, hi, hk] at h
    simpa [kindT] using h
  have h1 := h0.take (en := en)
  obtain ⟨h2, h3⟩ := h1.name (en := en) (plainL_name hp).2
  have h4 := h2.take (en := en)
  have hl := h4.len
  have hfl := flatW_len vW_len d.values
  rw [List.length_append] at hl
  obtain ⟨i1, i2⟩ := at_values d.values ((((r.take en tEnum).name en).take en [123]).l.length + 1) _ [] u hv h4 (by omega)
  unfold Rd.enum
  simp only
  refine ⟨fun g => ?_, i2.take⟩
  unfold sD
  simp only [hk, hf, hm, hi, stripL_nil, List.map_nil, h3]
  rw [i1]; rfl
theorem At.service {f : Nat} {d : Dc} {r : Rd} {u : KT} (hk : d.kind = 3) (hp : plainL d.name = true) (hf : d.fields = []) (hv : d.values = []) (hi : d.inner = []) (hm : d.methods.all mOK = true) (h : At r (dW (f + 1) d ++ u)) :
    DE d (r.service en).1 ∧ At (r.service en).2 u := by
  rw [List.all_eq_true] at hm
  have h0 : At r ((1, tService) :: (1, d.name) :: (3, [123]) :: (d.methods.flatMap mW ++ (3, [125]) :: u)) := by
    rw [dW, hf, hv, hi, hk] at h
    simpa [kindT] using h
  have h1 := h0.take (en := en)
  obtain ⟨h2, h3⟩ := h1.name (en := en) (plainL_name hp).2
  have h4 := h2.take (en := en)
  have hl := h4.len
  have hfl := flatW_len mW_len d.methods
  rw [List.length_append] at hl
  obtain ⟨i1, i2⟩ := at_methods d.methods ((((r.take en tService).name en).take en [123]).l.length + 1) _ [] u hm h4 (by omega)
  unfold Rd.service
  simp only
  refine ⟨fun g => ?_, i2.take⟩
  unfold sD
  simp only [hk, hf, hv, hi, stripL_nil, List.map_nil, h3]
  rw [i1]; rfl
theorem at_inner {msg : Rd → Dc × Rd} (f k : Nat) (hmsg : ∀ (d : Dc) (r : Rd) (u : KT), fmD f (k + 1) d = true → d.kind = 1 → At r (dW (f + 1) d ++ u) → DE d (msg r).1 ∧ At (msg r).2 u) :
    ∀ (ds : List Dc) (n : Nat) (r : Rd) (fs : List Fd) (acc acc' : List Dc) (u : KT), (∀ d ∈ ds, fmD f (k + 1) d = true) → DLs acc acc' → At r (ds.flatMap (dW (f + 1)) ++ (3, [125]) :: u) → ds.length < n →
    (bodyL en msg n r fs acc').1.1 = fs ∧ DLs (acc ++ ds) (bodyL en msg n r fs acc').1.2 ∧ At (bodyL en msg n r fs acc').2 ((3, [125]) :: u)
  | [], n, r, fs, acc, acc', u, hd, ha, h, hn => by
    obtain ⟨n, rfl⟩ : ∃ f', n = f' + 1 := ⟨n - 1, by simp at hn; omega⟩
    have h' : At r ((3, [125]) :: u) := h
    rw [bodyL, if_neg (by rw [h'.is]; simp)]
    exact ⟨rfl, by rw [List.append_nil]; exact ha, h'⟩
  | d :: ds, n, r, fs, acc, acc', u, hd, ha, h, hn => by
    obtain ⟨n, rfl⟩ : ∃ f', n = f' + 1 := ⟨n - 1, by simp at hn; omega⟩
    have hx := hd d List.mem_cons_self
    obtain ⟨p0, pk, pf, pv, pm, p1, p2, p3, p4⟩ := fmD_parts hx
    rw [List.flatMap_cons, List.append_assoc] at h
    have h1 : ∃ v, At r ((1, kindT d.kind) :: v) := ⟨_, by rw [dW] at h; exact h⟩
    obtain ⟨v, h1⟩ := h1
    have ht : ∀ y ∈ ds, fmD f (k + 1) y = true := fun y hy => hd y (List.mem_cons_of_mem _ hy)
    have hlen : ds.length < n := by simp at hn; omega
    rcases pk with hk | hk | hk
    · rw [hk] at h1
      rw [bodyL, if_pos ⟨h.1, by rw [h1.is]; rfl⟩, if_pos (by rw [h1.is]; rfl)]
      obtain ⟨e1, e2⟩ := hmsg d r _ hx hk h
      have := at_inner f k hmsg ds n _ fs (acc ++ [d]) (acc' ++ [(msg r).1]) u ht (ha.snoc e1) e2 hlen
      rw [List.append_assoc] at this
      exact this
    · rw [hk] at h1
      rw [bodyL, if_pos ⟨h.1, by rw [h1.is]; rfl⟩, if_neg (by rw [h1.is]; decide), if_pos (by rw [h1.is]; rfl)]
      obtain ⟨e1, e2⟩ := h.enum (en := en) hk p0 (p2 (by omega)).2 (p4 hk) (p2 (by omega)).1 pv
      have := at_inner f k hmsg ds n _ fs (acc ++ [d]) (acc' ++ [(r.enum en).1]) u ht (ha.snoc e1) e2 hlen
      rw [List.append_assoc] at this
      exact this
    · exact absurd (p3 hk).1 (by omega)
theorem at_fields {msg : Rd → Dc × Rd} : ∀ (xs : List Fd) (n : Nat) (r : Rd) (fs : List Fd) (ds : List Dc) (v : KT), (∀ x ∈ xs, fOK x = true) → At r (xs.flatMap fW ++ v) → xs.length ≤ n →
    ∃ fs' r', bodyL en msg n r fs ds = bodyL en msg (n - xs.length) r' fs' ds ∧ fs'.map sF = fs.map sF ++ xs.map sF ∧ At r' v
  | [], n, r, fs, ds, v, hx, h, hn => ⟨fs, r, by simp, by simp, h⟩
  | x :: xs, n, r, fs, ds, v, hx, h, hn => by
    obtain ⟨n, rfl⟩ : ∃ f', n = f' + 1 := ⟨n - 1, by simp at hn; omega⟩
    have hxx := hx x List.mem_cons_self
    rw [List.flatMap_cons, List.append_assoc] at h
    obtain ⟨t, w, hw, q1, q2, q3, _⟩ := field_head hxx (xs.flatMap fW ++ v)
    have h1 := h
    rw [hw] at h1
    rw [bodyL, if_pos ⟨h.1, by rw [h1.is]; exact beq_ne q3⟩, if_neg (by rw [h1.is, beq_ne q1]; decide), if_neg (by rw [h1.is, beq_ne q2]; decide)]
    obtain ⟨e1, e2⟩ := h.field (en := en) hxx
    obtain ⟨fs', r', i1, i2, i3⟩ := at_fields (msg := msg) xs n _ (fs ++ [(r.field en).1]) ds v (fun y hy => hx y (List.mem_cons_of_mem _ hy)) e2 (by simp at hn; omega)
    refine ⟨fs', r', by rw [i1]; congr 1; simp, by rw [i2]; simp [e1], i3⟩
theorem at_message : ∀ (f k : Nat) (d : Dc) (r : Rd) (u : KT), fmD f k d = true → d.kind = 1 → At r (dW (f + 1) d ++ u) → DE d (messageL en (9 - k) (k + 1) r).1 ∧ At (messageL en (9 - k) (k + 1) r).2 u := by
  intro f
  have gen : ∀ (f k : Nat) (d : Dc) (r : Rd) (u : KT), fmD f k d = true → d.kind = 1 → At r (dW (f + 1) d ++ u) →
      (∀ (n : Nat) (r3 : Rd) (fs : List Fd), d.inner.length < n → At r3 (d.inner.flatMap (dW f) ++ (3, [125]) :: u) → (bodyL en (messageL en (8 - k) (k + 1 + 1)) n r3 fs []).1.1 = fs ∧ DLs d.inner (bodyL en (messageL en (8 - k) (k + 1 + 1)) n r3 fs []).1.2 ∧ At (bodyL en (messageL en (8 - k) (k + 1 + 1)) n r3 fs []).2 ((3, [125]) :: u)) →
      d.inner.length ≤ (d.inner.flatMap (dW f)).length →
      DE d (messageL en (9 - k) (k + 1) r).1 ∧ At (messageL en (9 - k) (k + 1) r).2 u := by
    intro f k d r u hfm hk h hin hil
    obtain ⟨p0, pk, pf, pv, pm, p1, p2, p3, p4⟩ := fmD_parts hfm
    obtain ⟨k8, kin, kv, km⟩ := p1 hk
    rw [List.all_eq_true] at pf
    have h0 : At r ((1, tMessage) :: (1, d.name) :: (3, [123]) :: (d.fields.flatMap fW ++ (d.inner.flatMap (dW f) ++ (3, [125]) :: u))) := by
      rw [dW, kv, km, hk] at h
      simpa [kindT] using h
    have h1 := h0.take (en := en)
    obtain ⟨h2, h3⟩ := h1.name (en := en) (plainL_name p0).2
    have h4 := h2.take (en := en)
    have hl := h4.len
    have hfl := flatW_len fW_len d.fields
    rw [List.length_append, List.length_append, List.length_cons] at hl
    rw [show 9 - k = (8 - k) + 1 by omega]
    unfold messageL
    simp only
    rw [if_neg (by omega)]
    obtain ⟨fs', r', i1, i2, i3⟩ := at_fields (en := en) (msg := messageL en (8 - k) (k + 1 + 1)) d.fields ((((r.take en tMessage).name en).take en [123]).l.length + 1) _ [] [] _ pf h4 (by omega)
    rw [i1]
    obtain ⟨j1, j2, j3⟩ := hin ((((r.take en tMessage).name en).take en [123]).l.length + 1 - d.fields.length) r' fs' (by omega) i3
    refine ⟨fun g => ?_, j3.take⟩
    unfold sD
    simp only [hk, kv, km, List.map_nil, h3]
    rw [j1, i2, j2.strip g]; rfl
  induction f with
  | zero =>
    intro k d r u hfm hk h
    have hin := fm_inner hfm
    have hni : d.inner = [] := by
      have : d.inner.isEmpty = true := hin
      simpa using this
    refine gen 0 k d r u hfm hk h (fun n r3 fs hn h3 => ?_) (by rw [hni]; simp)
    rw [hni] at h3 ⊢
    obtain ⟨n, rfl⟩ : ∃ f', n = f' + 1 := ⟨n - 1, by omega⟩
    have h' : At r3 ((3, [125]) :: u) := h3
    rw [bodyL, if_neg (by rw [h'.is]; simp)]
    exact ⟨rfl, fun g => rfl, h'⟩
  | succ f ih =>
    intro k d r u hfm hk h
    have hin := fm_inner hfm
    rw [fmL_succ, List.all_eq_true] at hin
    obtain ⟨p0, pk, pf, pv, pm, p1, p2, p3, p4⟩ := fmD_parts hfm
    obtain ⟨k8, _⟩ := p1 hk
    refine gen (f + 1) k d r u hfm hk h (fun n r3 fs hn h3 => ?_) (flatW_len (dW_len f) _)
    have := at_inner (en := en) (msg := messageL en (8 - k) (k + 1 + 1)) f k (fun d r u q1 q2 q3 => by
      have := ih (k + 1) d r u q1 q2 q3
      rw [show 9 - (k + 1) = 8 - k by omega] at this
      exact this) d.inner n r3 fs [] [] u hin (fun g => rfl) h3 hn
    exact this
theorem at_decls (f : Nat) : ∀ (ds : List Dc) (n : Nat) (r : Rd) (acc acc' : List Dc), (∀ d ∈ ds, fmD f 0 d = true) → DLs acc acc' → At r (ds.flatMap (dW (f + 1))) → ds.length < n →
    DLs (acc ++ ds) (declsL en n r acc').1 ∧ (declsL en n r acc').2.e = 0
  | [], n, r, acc, acc', hd, ha, h, hn => by
    obtain ⟨n, rfl⟩ : ∃ f', n = f' + 1 := ⟨n - 1, by simp at hn; omega⟩
    have hl : r.l = [] := by
      have := h.2
      unfold kt at this
      exact List.map_eq_nil_iff.1 this
    rw [declsL, if_neg (fun e => e.2 hl)]
    exact ⟨by rw [List.append_nil]; exact ha, h.1⟩
  | d :: ds, n, r, acc, acc', hd, ha, h, hn => by
    obtain ⟨n, rfl⟩ : ∃ f', n = f' + 1 := ⟨n - 1, by simp at hn; omega⟩
    have hx := hd d List.mem_cons_self
    obtain ⟨p0, pk, pf, pv, pm, p1, p2, p3, p4⟩ := fmD_parts hx
    rw [List.flatMap_cons] at h
    have h1 : ∃ v, At r ((1, kindT d.kind) :: v) := ⟨_, by rw [dW] at h; exact h⟩
    obtain ⟨v, h1⟩ := h1
    have hne : r.l ≠ [] := by
      obtain ⟨x, l, e, _⟩ := h1.cons
      rw [e]; simp
    have ht : ∀ y ∈ ds, fmD f 0 y = true := fun y hy => hd y (List.mem_cons_of_mem _ hy)
    have hlen : ds.length < n := by simp at hn; omega
    rcases pk with hk | hk | hk
    · rw [hk] at h1
      rw [declsL, if_pos ⟨h.1, hne⟩, if_pos (by rw [h1.is]; rfl)]
      obtain ⟨e1, e2⟩ := at_message (en := en) f 0 d r _ hx hk h
      have := at_decls f ds n _ (acc ++ [d]) (acc' ++ [(r.message en 1).1]) ht (ha.snoc e1) e2 hlen
      rw [List.append_assoc] at this
      exact this
    · rw [hk] at h1
      rw [declsL, if_pos ⟨h.1, hne⟩, if_neg (by rw [h1.is]; decide), if_pos (by rw [h1.is]; rfl)]
      obtain ⟨e1, e2⟩ := h.enum (en := en) hk p0 (p2 (by omega)).2 (p4 hk) (p2 (by omega)).1 pv
      have := at_decls f ds n _ (acc ++ [d]) (acc' ++ [(r.enum en).1]) ht (ha.snoc e1) e2 hlen
      rw [List.append_assoc] at this
      exact this
    · rw [hk] at h1
      rw [declsL, if_pos ⟨h.1, hne⟩, if_neg (by rw [h1.is]; decide), if_neg (by rw [h1.is]; decide), if_pos (by rw [h1.is]; rfl)]
      obtain ⟨e1, e2⟩ := h.service (en := en) hk p0 (p2 (by omega)).2 (p3 hk).2 (p2 (by omega)).1 pm
      have := at_decls f ds n _ (acc ++ [d]) (acc' ++ [(r.service en).1]) ht (ha.snoc e1) e2 hlen
      rw [List.append_assoc] at this
      exact this
end
/-- what is printed is read, and is the same, but for places -/
theorem file_text (f : Nat) (ds : List Dc) (h : fmL (f + 1) 0 ds = true) (he : (wordsL (textL (f + 1) ds)).2.2 = 0) : ∃ ds', fileL (textL (f + 1) ds) = (ds', (0, 0), 0) ∧ DLs ds ds' := by
  have hw := words_text f ds h he
  rw [fmL_succ, List.all_eq_true] at h
  generalize textL (f + 1) ds = l at *
  unfold fileL
  rw [if_pos he]
  unfold fileW
  simp only
  have ha : At ⟨(wordsL l).1, 0, 0, 0⟩ (ds.flatMap (dW (f + 1))) := ⟨rfl, hw⟩
  have hl := ha.len
  have hfl := flatW_len (dW_len f) ds
  obtain ⟨i1, i2⟩ := at_decls (en := (((endOf l).1 : Int), ((endOf l).2 : Int))) f ds ((wordsL l).1.length + 1) _ [] [] h (fun g => rfl) ha (by simp only at hl; omega)
  rw [if_pos i2]
  exact ⟨_, rfl, i1⟩
/-! places change nothing -/
theorem dT_strip : ∀ (f g k : Nat) (d : Dc), f ≤ g + 1 → dT f k (sD g d) = dT f k d := by
  intro f
  induction f with
  | zero => intro g k d _; rfl
  | succ f ih =>
    intro g k d hg
    have hin : (stripL g d.inner).flatMap (dT f (k + 1)) = d.inner.flatMap (dT f (k + 1)) := by
      cases g with
      | zero =>
        have : f = 0 := by omega
        subst this
        have z : ∀ l : List Dc, l.flatMap (dT 0 (k + 1)) = [] := fun l => by rw [List.flatMap_eq_nil_iff]; intro x _; rfl
        rw [z, z]
      | succ g =>
        rw [stripL_succ, List.flatMap_map]
        congr 1
        funext x
        exact ih g (k + 1) x (by omega)
    have hf : (d.fields.map sF).flatMap (fT (k + 1)) = d.fields.flatMap (fT (k + 1)) := by rw [List.flatMap_map]; rfl
    have hv : (d.values.map sV).flatMap (vT (k + 1)) = d.values.flatMap (vT (k + 1)) := by rw [List.flatMap_map]; rfl
    have hm : (d.methods.map sM).flatMap (mT (k + 1)) = d.methods.flatMap (mT (k + 1)) := by rw [List.flatMap_map]; rfl
    unfold sD
    rw [dT, dT]
    simp only [hin, hf, hv, hm]
theorem flatMap_strip (f g k : Nat) (hg : f ≤ g + 1) (ds : List Dc) (pre : List UInt8) : (ds.map (sD g)).flatMap (fun d => pre ++ dT f k d) = ds.flatMap fun d => pre ++ dT f k d := by
  rw [List.flatMap_map]
  congr 1
  funext x
  rw [dT_strip f g k x hg]
theorem textL_strip (f g : Nat) (hg : f ≤ g + 1) : ∀ ds : List Dc, textL f (ds.map (sD g)) = textL f ds
  | [] => rfl
  | d :: t => by
    show dT f 0 (sD g d) ++ (t.map (sD g)).flatMap (fun d => 10 :: dT f 0 d) = dT f 0 d ++ t.flatMap fun d => 10 :: dT f 0 d
    rw [dT_strip f g 0 d hg]
    congr 1
    exact flatMap_strip f g 0 hg t [10]
theorem fmD_strip : ∀ (f g k : Nat) (d : Dc), f < g → fmD f k (sD g d) = fmD f k d := by
  have hF : ∀ l : List Fd, (l.map sF).all fOK = l.all fOK := fun l => by rw [List.all_map]; rfl
  have hV : ∀ l : List Vl, (l.map sV).all vOK = l.all vOK := fun l => by rw [List.all_map]; rfl
  have hM : ∀ l : List Mt, (l.map sM).all mOK = l.all mOK := fun l => by rw [List.all_map]; rfl
  have hE1 : ∀ l : List Fd, (l.map sF).isEmpty = l.isEmpty := fun l => by cases l <;> rfl
  have hE2 : ∀ l : List Vl, (l.map sV).isEmpty = l.isEmpty := fun l => by cases l <;> rfl
  have hE3 : ∀ l : List Mt, (l.map sM).isEmpty = l.isEmpty := fun l => by cases l <;> rfl
  have hE4 : ∀ (g : Nat) (l : List Dc), (l.map (sD g)).isEmpty = l.isEmpty := fun g l => by cases l <;> rfl
  have gen : ∀ (f g k : Nat) (d : Dc), fmL f (k + 1) (stripL g d.inner) = fmL f (k + 1) d.inner → (stripL g d.inner).isEmpty = d.inner.isEmpty → fmD f k (sD g d) = fmD f k d := by
    intro f g k d h1 h2
    unfold fmD sD
    simp only [hF, hV, hM, hE1, hE2, hE3, h1, h2]
  intro f
  induction f with
  | zero =>
    intro g k d hg
    obtain ⟨g, rfl⟩ : ∃ g', g = g' + 1 := ⟨g - 1, by omega⟩
    have h2 : (stripL (g + 1) d.inner).isEmpty = d.inner.isEmpty := by rw [stripL_succ]; exact hE4 g _
    exact gen 0 (g + 1) k d h2 h2
  | succ f ih =>
    intro g k d hg
    obtain ⟨g, rfl⟩ : ∃ g', g = g' + 1 := ⟨g - 1, by omega⟩
    have h2 : (stripL (g + 1) d.inner).isEmpty = d.inner.isEmpty := by rw [stripL_succ]; exact hE4 g _
    refine gen (f + 1) (g + 1) k d ?_ h2
    rw [stripL_succ, fmL_succ, fmL_succ, List.all_map]
    congr 1
    funext x
    exact ih g (k + 1) x (by omega)
theorem fmL_strip (f g k : Nat) (hg : f ≤ g) (ds : List Dc) : fmL f k (ds.map (sD g)) = fmL f k ds := by
  cases f with
  | zero => cases ds <;> rfl
  | succ f =>
    rw [fmL_succ, fmL_succ, List.all_map]
    congr 1
    funext x
    exact fmD_strip f g k x (by omega)
theorem textL_DLs {ds ds' : List Dc} (h : DLs ds ds') (f : Nat) : textL f ds' = textL f ds := by
  rw [← textL_strip f f (by omega) ds', h f, textL_strip f f (by omega) ds]
theorem fmL_DLs {ds ds' : List Dc} (h : DLs ds ds') (f k : Nat) : fmL f k ds' = fmL f k ds := by
  rw [← fmL_strip f f k (Nat.le_refl _) ds', h f, fmL_strip f f k (Nat.le_refl _) ds]
/-- what print answers: the text, or an error's number -/
def printL (f : Nat) (ds : List Dc) : List UInt8 × Int :=
  if fmL f 0 ds = true then (if (wordsL (textL f ds)).2.2 = 0 then (textL f ds, 0) else ([], 4)) else ([], 1)
theorem printL_DLs {ds ds' : List Dc} (h : DLs ds ds') (f : Nat) : printL f ds' = printL f ds := by
  unfold printL; rw [fmL_DLs h, textL_DLs h]
end Go.Proofs.YtngmimbpakmkiaaGreatDoor
namespace Go.Proofs.YtngmimbpakmkiaaGreatDoor
set_option linter.unusedVariables false

/-- from p on there are so many runes to e, and none of them is a line feed -/
def Gap (l : List UInt8) : Nat → Nat → Nat → Prop
  | 0, p, e => p = e
  | c + 1, p, e => p < l.length ∧ (nx (l.drop p)).1 ≠ 10 ∧ Gap l c (p + (nx (l.drop p)).2) e
theorem drop_some {l : List UInt8} {k : Nat} (h : k < l.length) : l.drop k ≠ [] := by
  intro e; have := congrArg List.length e; rw [List.length_drop, List.length_nil] at this; omega
theorem drop_lt_of {l : List UInt8} {k : Nat} (h : l.drop k ≠ []) : k < l.length := by
  by_cases hk : k < l.length
  · exact hk
  · exact absurd (List.drop_eq_nil_of_le (Nat.le_of_not_lt hk)) h
theorem Gap.le {l : List UInt8} : ∀ {c p e : Nat}, Gap l c p e → p + c ≤ e
  | 0, p, e, h => by have : p = e := h; omega
  | c + 1, p, e, h => by
    obtain ⟨h1, h2, h3⟩ := h
    have := h3.le
    have := (nx_width _ (drop_some h1)).1
    omega
theorem Gap.bound {l : List UInt8} : ∀ {c p e : Nat}, Gap l c p e → p ≤ l.length → e ≤ l.length
  | 0, p, e, h, hp => by have : p = e := h; omega
  | c + 1, p, e, h, hp => by
    obtain ⟨h1, h2, h3⟩ := h
    refine h3.bound ?_
    have := (nx_width _ (drop_some h1)).2
    rw [List.length_drop] at this
    omega
theorem name_not10 {r : Int} (h : nameRune r = true) : r ≠ 10 := by
  intro e; subst e; revert h; decide
theorem gap_run (l : List UInt8) : ∀ (f p : Nat), Gap l (runL f (l.drop p)).2 p (p + (runL f (l.drop p)).1)
  | 0, p => by simp [runL, Gap]
  | f + 1, p => by
    by_cases h : l.drop p ≠ [] ∧ nameRune (nx (l.drop p)).1 = true
    · have e : runL (f + 1) (l.drop p) = ((nx (l.drop p)).2 + (runL f (l.drop (p + (nx (l.drop p)).2))).1, (runL f (l.drop (p + (nx (l.drop p)).2))).2 + 1) := by
        rw [runL, if_pos h, List.drop_drop]
      rw [e]
      refine ⟨drop_lt_of h.1, name_not10 h.2, ?_⟩
      have := gap_run l f (p + (nx (l.drop p)).2)
      rw [show p + ((nx (l.drop p)).2 + (runL f (l.drop (p + (nx (l.drop p)).2))).1) = p + (nx (l.drop p)).2 + (runL f (l.drop (p + (nx (l.drop p)).2))).1 by omega]
      exact this
    · have e : runL (f + 1) (l.drop p) = (0, 0) := by rw [runL, if_neg h]
      rw [e]; exact rfl
theorem nx_not10 (l : List UInt8) (h : l ≠ []) (h10 : l.head? ≠ some 10) : (nx l).1 ≠ 10 := by
  cases l with
  | nil => exact absurd rfl h
  | cons b t =>
    by_cases hb : b.toNat < 128
    · rw [nx_ascii b t hb]
      intro e
      have e1 : (b.toNat : Int) = 10 := e
      have e2 : b.toNat = 10 := by omega
      exact h10 (by rw [List.head?_cons, ← UInt8.toNat_inj.1 (show b.toNat = (10 : UInt8).toNat from e2)])
    · have := nx_high b t (by omega)
      intro e
      rw [e] at this
      omega
theorem gap_skip (l : List UInt8) : ∀ (f p : Nat), Gap l (skipL f (l.drop p)).2 p (p + (skipL f (l.drop p)).1)
  | 0, p => by simp [skipL, Gap]
  | f + 1, p => by
    by_cases h : l.drop p ≠ [] ∧ (l.drop p).head? ≠ some 10
    · have e : skipL (f + 1) (l.drop p) = ((nx (l.drop p)).2 + (skipL f (l.drop (p + (nx (l.drop p)).2))).1, (skipL f (l.drop (p + (nx (l.drop p)).2))).2 + 1) := by
        rw [skipL, if_pos h, List.drop_drop]
      rw [e]
      refine ⟨drop_lt_of h.1, nx_not10 _ h.1 h.2, ?_⟩
      have := gap_skip l f (p + (nx (l.drop p)).2)
      rw [show p + ((nx (l.drop p)).2 + (skipL f (l.drop (p + (nx (l.drop p)).2))).1) = p + (nx (l.drop p)).2 + (skipL f (l.drop (p + (nx (l.drop p)).2))).1 by omega]
      exact this
    · have e : skipL (f + 1) (l.drop p) = (0, 0) := by rw [skipL, if_neg h]
      rw [e]; exact rfl

/-- the rune at the head, as a range over the text has it -/
def rn (l : List UInt8) : Int := ((Lib.decodeL l).1 : Int)
theorem rn_nx (l : List UInt8) (h : l ≠ []) : (rn l = (nx l).1 ∨ (rn l = 65533 ∧ (nx l).1 = -1)) ∧ (Lib.decodeL l).2 = (nx l).2 := by
  unfold rn nx
  rw [if_neg h]
  by_cases c : (Lib.decodeL l).1 = 65533 ∧ (Lib.decodeL l).2 ≤ 1
  · rw [if_pos c]; exact ⟨.inr ⟨by rw [c.1]; rfl, rfl⟩, rfl⟩
  · rw [if_neg c]; exact ⟨.inl rfl, rfl⟩
theorem rn_name (l : List UInt8) (h : l ≠ []) : nameRune (rn l) = nameRune (nx l).1 ∧ isLetter (rn l) = isLetter (nx l).1 ∧ isDigit (rn l) = isDigit (nx l).1 ∧ signR (rn l) = signR (nx l).1 := by
  rcases (rn_nx l h).1 with e | ⟨e1, e2⟩
  · rw [e]; exact ⟨rfl, rfl, rfl, rfl⟩
  · rw [e1, e2]; exact ⟨rfl, rfl, rfl, rfl⟩
theorem rn_is (l : List UInt8) (h : l ≠ []) (k : Int) (h0 : 0 ≤ k) (h1 : k < 65533) : rn l = k ↔ (nx l).1 = k := by
  rcases (rn_nx l h).1 with e | ⟨e1, e2⟩
  · rw [e]
  · rw [e1, e2]; constructor <;> intro e <;> omega

/-- how far a remark at the head goes; 0: there is none -/
def remL (l : List UInt8) : Nat := if l[1]? = some 47 then (skipL l.length l).1 else 0
/-- what the program takes at the head: a kind (0: it stands between words) and so many bytes (0: it is nothing) -/
def takeL (l : List UInt8) : Int × Nat :=
  if rn l = 32 ∨ rn l = 9 ∨ rn l = 10 then (0, 1)
  else if rn l = 47 then (0, remL l)
  else if signR (rn l) = true then (3, 1)
  else if isLetter (rn l) = true then (1, if nameOf (runes ⟨(l.take (runL l.length l).1).toArray⟩) = true then (runL l.length l).1 else 0)
  else if isDigit (rn l) = true then (2, if ((l.take (runL l.length l).1).all isDig && numL (l.take (runL l.length l).1)) = true then (runL l.length l).1 else 0)
  else (0, 0)
theorem sign_small {r : Int} (h : signR r = true) : 0 ≤ r ∧ r < 128 ∧ isLetter r = false ∧ isDigit r = false ∧ r ≠ 10 := by
  simp only [signR, decide_eq_true_iff] at h
  rcases h with rfl | rfl | rfl | rfl | rfl | rfl | rfl <;> decide
theorem width_ascii (l : List UInt8) (h : l ≠ []) (h0 : 0 ≤ (nx l).1) (h1 : (nx l).1 < 128) : (nx l).2 = 1 := by
  cases l with
  | nil => exact absurd rfl h
  | cons b t =>
    by_cases hb : b.toNat < 128
    · rw [nx_ascii b t hb]
    · have := nx_high b t (by omega)
      omega
theorem letter_not {r : Int} (h : isLetter r = true) : r ≠ 10 ∧ r ≠ 32 ∧ r ≠ 9 ∧ r ≠ 47 := by
  simp only [isLetter, decide_eq_true_iff] at h; omega
theorem digit_not {r : Int} (h : isDigit r = true) : r ≠ 10 ∧ r ≠ 32 ∧ r ≠ 9 ∧ r ≠ 47 := by
  simp only [isDigit, decide_eq_true_iff] at h; omega
/-- what is taken, held against the words: nothing; a line feed; a thing between words; a word -/
theorem lex_take (f : Nat) (l : List UInt8) (line col : Nat) (acc : List Wd) (h : l ≠ []) :
    ((takeL l).2 = 0 ∧ lexL (f + 1) l line col acc = ([], (line, col), 6)) ∨
    ((takeL l) = (0, 1) ∧ rn l = 10 ∧ lexL (f + 1) l line col acc = lexL f (l.drop 1) (line + 1) 1 acc) ∨
    ((takeL l).1 = 0 ∧ 1 ≤ (takeL l).2 ∧ rn l ≠ 10 ∧ ∃ c, Gap l (c + 1) 0 (takeL l).2 ∧ lexL (f + 1) l line col acc = lexL f (l.drop (takeL l).2) line (col + (c + 1)) acc) ∨
    ((takeL l).1 ≠ 0 ∧ 1 ≤ (takeL l).2 ∧ rn l ≠ 10 ∧ ∃ c, Gap l (c + 1) 0 (takeL l).2 ∧ lexL (f + 1) l line col acc =
      if acc.length = 4000 then ([], (line, col), 4) else lexL f (l.drop (takeL l).2) line (col + (c + 1)) (acc ++ [⟨(takeL l).1, l.take (takeL l).2, line, col⟩])) := by
  have hpos : 0 < l.length := List.length_pos_iff.2 h
  have hw := nx_width l h
  have hnm := rn_name l h
  have i10 := rn_is l h 10 (by omega) (by omega)
  have i32 := rn_is l h 32 (by omega) (by omega)
  have i9 := rn_is l h 9 (by omega) (by omega)
  have i47 := rn_is l h 47 (by omega) (by omega)
  by_cases h10 : rn l = 10
  · refine .inr (.inl ⟨?_, h10, lexL_feed f l line col acc h (i10.1 h10)⟩)
    unfold takeL; rw [if_pos (.inr (.inr h10))]
  by_cases hb : rn l = 32 ∨ rn l = 9
  · have e : takeL l = (0, 1) := by unfold takeL; rw [if_pos (by rcases hb with hb | hb; exact .inl hb; exact .inr (.inl hb))]
    have hb' : (nx l).1 = 32 ∨ (nx l).1 = 9 := by rcases hb with hb | hb; exact .inl (i32.1 hb); exact .inr (i9.1 hb)
    have w1 := width_ascii l h (by omega) (by omega)
    refine .inr (.inr (.inl ⟨by rw [e], by rw [e]; exact Nat.le_refl _, h10, 0, ?_, ?_⟩))
    · rw [e]
      refine ⟨hpos, by rw [List.drop_zero]; omega, ?_⟩
      show 0 + (nx (l.drop 0)).2 = 1
      rw [List.drop_zero, w1]
    · rw [e]; exact lexL_blank f l line col acc h hb'
  have hb' : ¬ ((nx l).1 = 32 ∨ (nx l).1 = 9) := by
    rintro (hb1 | hb1)
    · exact hb (.inl (i32.2 hb1))
    · exact hb (.inr (i9.2 hb1))
  have h10' : (nx l).1 ≠ 10 := fun e => h10 (i10.2 e)
  have nb : ¬ (rn l = 32 ∨ rn l = 9 ∨ rn l = 10) := by
    rintro (h1 | h1 | h1)
    · exact hb (.inl h1)
    · exact hb (.inr h1)
    · exact h10 h1
  by_cases hr : rn l = 47 ∧ l[1]? = some 47
  · have e : takeL l = (0, (skipL l.length l).1) := by unfold takeL remL; rw [if_neg nb, if_pos hr.1, if_pos hr.2]
    have hne := head_nx l h h10'
    obtain ⟨m, hm⟩ : ∃ m, l.length = m + 1 := ⟨l.length - 1, by omega⟩
    have g := gap_skip l l.length 0
    rw [List.drop_zero, Nat.zero_add] at g
    have hc : ∃ c, (skipL l.length l).2 = c + 1 := by rw [hm, skipL_step m l h hne]; exact ⟨_, rfl⟩
    obtain ⟨c, hc⟩ := hc
    have h1 := skipL_one l h hne
    refine .inr (.inr (.inl ⟨by rw [e], by rw [e]; exact h1, h10, c, ?_, ?_⟩))
    · rw [e, ← hc]; exact g
    · rw [e, ← hc]; exact lexL_remark f l line col acc h (i47.1 hr.1) hr.2
  have hbg : begins l := ⟨h, h10', fun e => hb' (.inl e), fun e => hb' (.inr e), fun e => hr ⟨i47.2 e.1, e.2⟩⟩
  rw [lexL_word f l line col acc hbg]
  by_cases h47 : rn l = 47
  · left
    have h1 : ¬ l[1]? = some 47 := fun e => hr ⟨h47, e⟩
    have e47 := i47.1 h47
    refine ⟨by unfold takeL remL; rw [if_neg nb, if_pos h47, if_neg h1], ?_⟩
    have eh : headW l = (3, (nx l).2, 1) := by unfold headW; rw [e47, if_neg (by decide), if_neg (by decide)]
    rw [if_pos (by rw [eh, e47]; unfold rightL; rw [if_neg (show ¬ (3 : Int) = 1 by decide), if_neg (show ¬ (3 : Int) = 2 by decide)]; decide)]
  by_cases hs : signR (rn l) = true
  · have e : takeL l = (3, 1) := by unfold takeL; rw [if_neg nb, if_neg h47, if_pos hs]
    have hs' : signR (nx l).1 = true := by rw [← hnm.2.2.2]; exact hs
    obtain ⟨s0, s1, s2, s3, s4⟩ := sign_small hs'
    have w1 := width_ascii l h s0 s1
    have eh : headW l = (3, 1, 1) := by unfold headW; rw [s2, s3, w1]; rfl
    refine .inr (.inr (.inr ⟨by rw [e]; decide, by rw [e]; exact Nat.le_refl _, h10, 0, ?_, ?_⟩))
    · rw [e]
      refine ⟨hpos, by rw [List.drop_zero]; exact s4, ?_⟩
      show 0 + (nx (l.drop 0)).2 = 1
      rw [List.drop_zero, w1]
    · rw [eh, e, if_neg (by unfold rightL; rw [if_neg (by decide), if_neg (by decide), hs']; decide)]
  obtain ⟨m, hm⟩ : ∃ m, l.length = m + 1 := ⟨l.length - 1, by omega⟩
  have g := gap_run l l.length 0
  rw [List.drop_zero, Nat.zero_add] at g
  by_cases hL : isLetter (rn l) = true
  · have hL' : isLetter (nx l).1 = true := by rw [← hnm.2.1]; exact hL
    have eh : headW l = (1, runL l.length l) := by unfold headW; rw [if_pos hL']
    have e : takeL l = (1, if nameOf (runes ⟨(l.take (runL l.length l).1).toArray⟩) = true then (runL l.length l).1 else 0) := by unfold takeL; rw [if_neg nb, if_neg h47, if_neg hs, if_pos hL]
    have hp := runL_pos m l h (by unfold nameRune; rw [hL']; rfl)
    rw [← hm] at hp
    by_cases hn : nameOf (runes ⟨(l.take (runL l.length l).1).toArray⟩) = true
    · rw [if_pos hn] at e
      obtain ⟨c, hc⟩ : ∃ c, (runL l.length l).2 = c + 1 := ⟨(runL l.length l).2 - 1, by omega⟩
      refine .inr (.inr (.inr ⟨by rw [e]; show ¬ (1 : Int) = 0; decide, by rw [e]; exact hp.1, h10, c, ?_, ?_⟩))
      · rw [e, ← hc]; exact g
      · rw [eh, e, ← hc, if_neg (by unfold rightL; rw [if_pos rfl, hn]; decide)]
    · rw [if_neg hn] at e
      left
      refine ⟨by rw [e], ?_⟩
      rw [eh, if_pos (by unfold rightL; rw [if_pos rfl]; simpa using hn)]
  by_cases hD : isDigit (rn l) = true
  · have hL' : ¬ isLetter (nx l).1 = true := by rw [← hnm.2.1]; exact hL
    have hD' : isDigit (nx l).1 = true := by rw [← hnm.2.2.1]; exact hD
    have eh : headW l = (2, runL l.length l) := by unfold headW; rw [if_neg hL', if_pos hD']
    have e : takeL l = (2, if ((l.take (runL l.length l).1).all isDig && numL (l.take (runL l.length l).1)) = true then (runL l.length l).1 else 0) := by unfold takeL; rw [if_neg nb, if_neg h47, if_neg hs, if_neg hL, if_pos hD]
    have hp := runL_pos m l h (by unfold nameRune; rw [hD']; simp)
    rw [← hm] at hp
    by_cases hn : ((l.take (runL l.length l).1).all isDig && numL (l.take (runL l.length l).1)) = true
    · rw [if_pos hn] at e
      obtain ⟨c, hc⟩ : ∃ c, (runL l.length l).2 = c + 1 := ⟨(runL l.length l).2 - 1, by omega⟩
      refine .inr (.inr (.inr ⟨by rw [e]; show ¬ (2 : Int) = 0; decide, by rw [e]; exact hp.1, h10, c, ?_, ?_⟩))
      · rw [e, ← hc]; exact g
      · rw [eh, e, ← hc, if_neg (by unfold rightL; rw [if_neg (show ¬ (2 : Int) = 1 by decide), if_pos rfl, hn]; decide)]
    · rw [if_neg hn] at e
      left
      refine ⟨by rw [e], ?_⟩
      rw [eh, if_pos (by unfold rightL; rw [if_neg (show ¬ (2 : Int) = 1 by decide), if_pos rfl]; simpa using hn)]
  · left
    have hL' : ¬ isLetter (nx l).1 = true := by rw [← hnm.2.1]; exact hL
    have hD' : ¬ isDigit (nx l).1 = true := by rw [← hnm.2.2.1]; exact hD
    have hs' : signR (nx l).1 = false := by rw [← hnm.2.2.2]; simpa using hs
    refine ⟨by unfold takeL; rw [if_neg nb, if_neg h47, if_neg hs, if_neg hL, if_neg hD], ?_⟩
    have eh : headW l = (3, (nx l).2, 1) := by unfold headW; rw [if_neg hL', if_neg hD']
    rw [eh, if_pos (by unfold rightL; rw [if_neg (show ¬ (3 : Int) = 1 by decide), if_neg (show ¬ (3 : Int) = 2 by decide)]; exact hs')]
theorem take_le (l : List UInt8) (h : l ≠ []) : (takeL l).2 ≤ l.length := by
  have hpos : 0 < l.length := List.length_pos_iff.2 h
  have h1 := (runL_le l.length l).1
  have h2 := (skipL_le l.length l).1
  unfold takeL remL
  repeat' split
  all_goals first | exact hpos | exact h1 | exact h2 | exact Nat.zero_le _

/-- the same gap, further along a text -/
theorem Gap.shift {l : List UInt8} {k : Nat} : ∀ {c p e : Nat}, Gap (l.drop k) c p e → Gap l c (k + p) (k + e)
  | 0, p, e, h => by have : p = e := h; subst this; exact rfl
  | c + 1, p, e, h => by
    obtain ⟨h1, h2, h3⟩ := h
    rw [List.length_drop] at h1
    rw [List.drop_drop] at h2 h3
    refine ⟨by omega, h2, ?_⟩
    have := h3.shift
    rw [Nat.add_assoc]
    exact this

theorem split10 : ∀ (l : List UInt8), (10 : UInt8) ∈ l → ∃ r y, l = r ++ 10 :: y ∧ ∀ b ∈ r, b ≠ 10
  | [], h => by cases h
  | b :: t, h => by
    by_cases hb : b = 10
    · exact ⟨[], t, by rw [hb]; rfl, by simp⟩
    · obtain ⟨r, y, e, hr⟩ := split10 t (by
        rcases List.mem_cons.1 h with h | h
        · exact absurd h.symm hb
        · exact h)
      refine ⟨b :: r, y, by rw [e]; rfl, fun x hx => ?_⟩
      rcases List.mem_cons.1 hx with hx | hx
      · rw [hx]; exact hb
      · exact hr x hx
theorem skip_end : ∀ (f : Nat) (l : List UInt8), l.length ≤ f → (∀ b ∈ l, b ≠ 10) → (skipL f l).1 = l.length
  | 0, l, hf, hb => by
    have : l = [] := List.eq_nil_of_length_eq_zero (by omega)
    subst this; rfl
  | f + 1, l, hf, hb => by
    by_cases h : l = []
    · subst h; rw [skipL_stop (f + 1) [] (.inl rfl)]; rfl
    · have hw := nx_width l h
      rw [skipL_step f l h (by
        cases l with
        | nil => simp
        | cons b t => rw [List.head?_cons]; intro e; exact hb b (by simp) (Option.some.inj e))]
      simp only
      rw [skip_end f (l.drop (nx l).2) (by rw [List.length_drop]; omega) (fun b hm => hb b (List.mem_of_mem_drop hm)), List.length_drop]
      omega
theorem index_none : ∀ l : List UInt8, (∀ b ∈ l, b ≠ 10) → Lib.indexByte l 10 = -1
  | [], _ => rfl
  | b :: t, hb => by
    have h1 : (b == (10 : UInt8)) = false := by simpa using hb b (by simp)
    have h2 := index_none t fun x hx => hb x (by simp [hx])
    unfold Lib.indexByte
    rw [h1, h2]; rfl
theorem index_some (y : List UInt8) : ∀ (r : List UInt8), (∀ b ∈ r, b ≠ 10) → Lib.indexByte (r ++ 10 :: y) 10 = (r.length : Int)
  | [], _ => by simp [Lib.indexByte]
  | b :: t, hb => by
    have h1 : (b == (10 : UInt8)) = false := by simpa using hb b (by simp)
    have h2 := index_some y t fun x hx => hb x (by simp [hx])
    rw [List.cons_append]
    unfold Lib.indexByte
    rw [h1, h2]
    have h3 : ((t.length : Int) == -1) = false := by simp
    rw [h3]
    simp
/-- a remark goes up to the first line feed, or to the end -/
theorem skip_index (l : List UInt8) : (Lib.indexByte l 10 < 0 ∧ (skipL l.length l).1 = l.length) ∨ (0 ≤ Lib.indexByte l 10 ∧ ((skipL l.length l).1 : Int) = Lib.indexByte l 10) := by
  by_cases h10 : (10 : UInt8) ∈ l
  · obtain ⟨r, y, rfl, hr⟩ := split10 l h10
    right
    rw [index_some y r hr, skip_all r.length r y (Nat.le_refl _) hr _ (by simp)]
    exact ⟨by omega, rfl⟩
  · have hb : ∀ b ∈ l, b ≠ 10 := fun b hb e => h10 (e ▸ hb)
    left
    rw [index_none l hb]
    exact ⟨by decide, skip_end _ l (Nat.le_refl _) hb⟩

/-- digits, read as the library does -/
theorem parseM (M : Nat) (hM : M < 1844674407370955162) : ∀ (l : List UInt8) (acc : Nat), acc ≤ M →
    (l.all isDig = true ∧ numV (acc : Int) l ≤ (M : Int) → ∃ u : Nat, Lib.parseUintM M acc l = .ok u ∧ (u : Int) = numV (acc : Int) l) ∧
    (¬ (l.all isDig = true ∧ numV (acc : Int) l ≤ (M : Int)) → Lib.parseUintM M acc l = .syntax ∨ Lib.parseUintM M acc l = .range)
  | [], acc, ha => by
    refine ⟨fun _ => ⟨acc, rfl, rfl⟩, fun h => absurd ⟨rfl, ?_⟩ h⟩
    show (acc : Int) ≤ (M : Int)
    omega
  | c :: r, acc, ha => by
    have hnv : numV (acc : Int) (c :: r) = numV (10 * (acc : Int) + ((c.toNat : Int) - 48)) r := rfl
    have hmono : ∀ (r : List UInt8) (n : Int), r.all isDig = true → 0 ≤ n → n ≤ numV n r := by
      intro r
      induction r with
      | nil => intro n _ _; exact Int.le_refl _
      | cons b t ih =>
        intro n hd hn
        rw [List.all_cons, Bool.and_eq_true] at hd
        have hb := hd.1
        simp only [isDig, decide_eq_true_iff] at hb
        have := ih (10 * n + ((b.toNat : Int) - 48)) hd.2 (by omega)
        show n ≤ numV (10 * n + ((b.toNat : Int) - 48)) t
        omega
    rw [hnv, List.all_cons]
    unfold Lib.parseUintM
    by_cases hd : 48 ≤ c.toNat ∧ c.toNat ≤ 57
    · have hdc : isDig c = true := by simp [isDig, hd]
      rw [if_pos hd, if_neg (by omega), hdc, Bool.true_and]
      have hcast : ((acc * 10 + (c.toNat - 48) : Nat) : Int) = 10 * (acc : Int) + ((c.toNat : Int) - 48) := by omega
      by_cases hgt : M < acc * 10 + (c.toNat - 48)
      · rw [if_pos hgt]
        refine ⟨fun ⟨h1, h2⟩ => ?_, fun _ => .inr rfl⟩
        have := hmono r (10 * (acc : Int) + ((c.toNat : Int) - 48)) h1 (by omega)
        omega
      · rw [if_neg hgt]
        have ih := parseM M hM r (acc * 10 + (c.toNat - 48)) (by omega)
        rw [hcast] at ih
        exact ih
    · have hdc : isDig c = false := by simp only [isDig, decide_eq_false_iff_not]; exact hd
      rw [if_neg hd, hdc, Bool.false_and]
      exact ⟨fun h => absurd h.1 (by decide), fun _ => .inl rfl⟩
theorem num_great : ∀ (l : List UInt8) (n : Int), l.all isDig = true → 0 ≤ n → n * 10 ^ l.length ≤ numV n l
  | [], n, _, _ => by show n * 10 ^ 0 ≤ n; omega
  | b :: t, n, hd, hn => by
    rw [List.all_cons, Bool.and_eq_true] at hd
    have hb := hd.1
    simp only [isDig, decide_eq_true_iff] at hb
    have ih := num_great t (10 * n + ((b.toNat : Int) - 48)) hd.2 (by omega)
    show n * 10 ^ (t.length + 1) ≤ numV (10 * n + ((b.toNat : Int) - 48)) t
    refine Int.le_trans ?_ ih
    rw [Int.pow_succ, ← Int.mul_assoc, Int.mul_right_comm]
    refine Int.mul_le_mul_of_nonneg_right (by omega) (Int.pow_nonneg (by decide))
/-- a number without noughts ahead, up to the greatest, has at most ten digits -/
theorem num_short (l : List UInt8) (hd : l.all isDig = true) (h0 : ¬ (l.head? = some 48 ∧ 1 < l.length)) (hv : numV 0 l ≤ 2147483647) : l.length ≤ 10 := by
  by_cases hl : l.length ≤ 10
  · exact hl
  · exfalso
    cases l with
    | nil => simp at hl
    | cons b t =>
      rw [List.all_cons, Bool.and_eq_true] at hd
      have hb := hd.1
      simp only [isDig, decide_eq_true_iff] at hb
      have hlen : (b :: t).length = t.length + 1 := rfl
      have hne : b ≠ 48 := fun e => h0 ⟨by rw [e]; rfl, by omega⟩
      have hne' : b.toNat ≠ 48 := fun e => hne (UInt8.toNat_inj.1 (show b.toNat = (48 : UInt8).toNat from e))
      have g := num_great t (10 * 0 + ((b.toNat : Int) - 48)) hd.2 (by omega)
      have e : numV 0 (b :: t) = numV (10 * 0 + ((b.toNat : Int) - 48)) t := rfl
      rw [e] at hv
      have hp : (10 : Int) ^ 10 ≤ 10 ^ t.length := by
        have := Nat.pow_le_pow_right (n := 10) (by decide) (show 10 ≤ t.length by omega)
        exact_mod_cast this
      have hm : 1 * (10 : Int) ^ 10 ≤ (10 * 0 + ((b.toNat : Int) - 48)) * 10 ^ t.length := Int.mul_le_mul (by omega) hp (by decide) (by omega)
      have hten : (10 : Int) ^ 10 = 10000000000 := by decide
      omega
/-- the library's reading of 32 bits, held against a number's words: of what begins with a digit, not with a nought ahead of more -/
theorem parse32 (l : List UInt8) (hne : l ≠ []) (hd : isDig (l.headD 0) = true) (h0 : ¬ (l.head? = some 48 ∧ 1 < l.length)) :
    ((l.all isDig && numL l) = true → ∃ v, Lib.parseIntB 32 l = .ok v) ∧ ((l.all isDig && numL l) = false → Lib.parseIntB 32 l = .syntax ∨ Lib.parseIntB 32 l = .range) := by
  cases l with
  | nil => exact absurd rfl hne
  | cons c r =>
    have hd' : 48 ≤ c.toNat ∧ c.toNat ≤ 57 := by
      have : isDig c = true := hd
      simpa [isDig] using this
    have hs : ¬ (c.toNat = 43 ∨ c.toNat = 45) := by omega
    have hn : ¬ c.toNat = 45 := by omega
    have P := parseM (2 ^ 32 - 1) (by decide) (c :: r) 0 (by decide)
    have eB : Lib.parseIntB 32 (c :: r) = match Lib.parseUintM (2 ^ 32 - 1) 0 (c :: r) with
        | .syntax => .syntax
        | .range => .range
        | .ok u => if 2 ^ 31 ≤ u then .range else .ok (u : Int) := by
      unfold Lib.parseIntB
      dsimp only
      rw [if_neg hs]
      have eu : Lib.parseUintB 32 (c :: r) = Lib.parseUintM (2 ^ 32 - 1) 0 (c :: r) := by unfold Lib.parseUintB; rw [if_neg (by simp)]
      rw [eu]
      cases Lib.parseUintM (2 ^ 32 - 1) 0 (c :: r) with
      | «syntax» => rfl
      | range => rfl
      | ok u => simp [hn]
    have hnum : numL (c :: r) = (decide ((c :: r).length ≤ 10) && decide (numV 0 (c :: r) ≤ 2147483647)) := by
      unfold numL
      have : (decide ((c :: r).head? = some 48) && decide (1 < (c :: r).length)) = false := by
        rw [Bool.eq_false_iff]
        intro h
        rw [Bool.and_eq_true, decide_eq_true_iff, decide_eq_true_iff] at h
        exact h0 h
      rw [this]; simp
    constructor
    · intro h
      rw [Bool.and_eq_true, hnum, Bool.and_eq_true, decide_eq_true_iff, decide_eq_true_iff] at h
      obtain ⟨ha, _, hv⟩ := h
      obtain ⟨u, hu, hue⟩ := P.1 ⟨ha, by
        have : ((0 : Nat) : Int) = 0 := rfl
        rw [this]
        have e : ((2 ^ 32 - 1 : Nat) : Int) = 4294967295 := by decide
        omega⟩
      refine ⟨(u : Int), ?_⟩
      rw [eB, hu]
      have hlt : ¬ 2 ^ 31 ≤ u := by
        have : ((0 : Nat) : Int) = 0 := rfl
        rw [this] at hue
        have e : (2 ^ 31 : Nat) = 2147483648 := by decide
        omega
      simp only [if_neg hlt]
    · intro h
      by_cases hq : (c :: r).all isDig = true ∧ numV ((0 : Nat) : Int) (c :: r) ≤ ((2 ^ 32 - 1 : Nat) : Int)
      · obtain ⟨u, hu, hue⟩ := P.1 hq
        right
        rw [eB, hu]
        have hbig : 2 ^ 31 ≤ u := by
          refine Nat.le_of_not_lt fun hlt => ?_
          have e : (2 ^ 31 : Nat) = 2147483648 := by decide
          have hv : numV 0 (c :: r) ≤ 2147483647 := by
            have : ((0 : Nat) : Int) = 0 := rfl
            rw [this] at hue
            omega
          have hsh := num_short (c :: r) hq.1 h0 hv
          rw [hq.1, hnum, Bool.true_and] at h
          rw [Bool.eq_false_iff] at h
          exact h (by rw [Bool.and_eq_true, decide_eq_true_iff, decide_eq_true_iff]; exact ⟨hsh, hv⟩)
        simp only [if_pos hbig]
      · rcases P.2 hq with e | e
        · left; rw [eB, e]
        · right; rw [eB, e]
end Go.Proofs.YtngmimbpakmkiaaGreatDoor
