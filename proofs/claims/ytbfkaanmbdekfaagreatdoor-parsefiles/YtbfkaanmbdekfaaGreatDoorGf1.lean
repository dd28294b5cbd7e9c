/-
  The runes of a text, and which of them make a name: plain words of this seat. Nothing is proved of the program here.
  The other forms of a name, as lists of runes, and their bytes: plain words and facts of this seat. Nothing is proved of the program here.
  The words of a text, as plain functions over its bytes: what stands at its head, how far a name or a number goes, how far a remark; and the words with their places. Nothing is proved of the program here.
  Facts on the words of a text: no more rounds are needed than there are bytes; a line further down all is the same; places rise. Nothing is proved of the program here.
  A remark says nothing: how a text is read up to a line feed does not hang on what stands behind it. Nothing is proved of the program here.
  A remark says nothing, the rest: how a text is read up to a line feed, whatever stands behind it. Nothing is proved of the program here.
-/
import Derived.WalkKit
import Derived.ProofKit
import Derived.Below
import Derived.Laws.RangeAny
import Derived.Laws.IdiomStrings
import Derived.Lib.Strings
import Derived.Lib.RuneBytes
import Derived.Lib.RuneCount
import Derived.Lib.TrimUEq
import Derived.Lib.MapLaws
import Derived.Lib.TrimAscii
namespace Go.Proofs.YtbfkaanmbdekfaaGreatDoor
set_option linter.unusedVariables false
open Go.ChangeShapes Go.WideShapes Go.ChangeAt Go.RowKit

theorem len_data (s : ByteArray) : s.data.toList.length = s.size := by first | exact Lib.size_eq s | exact (Lib.size_eq s).symm
theorem at_data (s : ByteArray) (k : Nat) (h : k < s.size) : s.data.toList[k]? = some (s[k]'h) := by
  rw [List.getElem?_eq_getElem (by rw [len_data]; exact h)]; rfl
theorem head_data (s : ByteArray) (h : 0 < s.size) : s.data.toList = s[0]'h :: s.data.toList.drop 1 := by
  have := List.drop_eq_getElem_cons (l := s.data.toList) (i := 0) (by rw [len_data]; exact h)
  rw [List.drop_zero] at this
  exact this
/-- the runes from a place on -/
def rns (s : ByteArray) : Nat → Nat → List Int
  | 0, _ => []
  | f + 1, i => if i < s.size then ((Utf8.decode s i).1 : Int) :: rns s f (i + (Utf8.decode s i).2) else []
/-- the runes of a text -/
def runes (s : ByteArray) : List Int := rns s s.size 0
theorem runesFrom_rns (s : ByteArray) : ∀ (b i : Nat) (acc : Array Value), Conv.runesFrom s b i acc = acc ++ ((rns s b i).map (Value.int .i32)).toArray
  | 0, i, acc => by simp [Conv.runesFrom, rns]
  | b + 1, i, acc => by
    unfold Conv.runesFrom rns
    split
    · show Conv.runesFrom s b (i + (Utf8.decode s i).2) (acc.push (.int .i32 (Int.ofNat (Utf8.decode s i).1))) = _
      rw [runesFrom_rns s b]
      simp
    · simp
theorem runes_eq (s : ByteArray) : Conv.runesFrom s s.size 0 #[] = ((runes s).map (Value.int .i32)).toArray := by
  rw [runesFrom_rns]; simp [runes]
theorem rns_len (s : ByteArray) : ∀ b i, (rns s b i).length ≤ b
  | 0, i => by simp [rns]
  | b + 1, i => by
    unfold rns
    split
    · have := rns_len s b (i + (Utf8.decode s i).2); simp; omega
    · simp
theorem runes_len (s : ByteArray) : (runes s).length ≤ s.size := rns_len s _ _
theorem rns_step (s : ByteArray) (b i : Nat) (h : i < s.size) : rns s (b + 1) i = ((Utf8.decode s i).1 : Int) :: rns s b (i + (Utf8.decode s i).2) := by
  rw [rns, if_pos h]
theorem rns_end (s : ByteArray) (b i : Nat) (h : ¬ i < s.size) : rns s b i = [] := by
  cases b with
  | zero => rfl
  | succ b => rw [rns, if_neg h]
theorem width_pos (s : ByteArray) (pos : Nat) (h : pos < s.size) : 1 ≤ (Utf8.decode s pos).2 := by
  by_cases ha : (s[pos]'h).toNat < 128
  · rw [decode_ascii s pos h ha]
    exact Nat.le_refl _
  · exact (decode_high s pos h (by omega)).2

/-- whether a rune is a letter -/
def isLetter (r : Int) : Bool := decide ((97 ≤ r ∧ r ≤ 122) ∨ (65 ≤ r ∧ r ≤ 90) ∨ (913 ≤ r ∧ r ≤ 969))
def isDigit (r : Int) : Bool := decide (48 ≤ r ∧ r ≤ 57)
theorem retB {a b : Bool} (h : a = b) : Ending.returned (.bool a) = .returned (.bool b) := by rw [h]
/-- whether a rune may stand in a name -/
def nameRune (r : Int) : Bool := isLetter r || isDigit r || decide (r = 95)
/-- whether runes are a name -/
def nameOf (l : List Int) : Bool := decide (1 ≤ l.length ∧ l.length ≤ 40) && isLetter (l.headD 0) && l.all nameRune
theorem all_drop {l : List Int} {k : Nat} {z : Int} (h : l[k]? = some z) (p : Int → Bool) : (l.drop k).all p = (p z && (l.drop (k + 1)).all p) := by
  have hlt := (List.getElem?_eq_some_iff.1 h).1
  rw [List.drop_eq_getElem_cons hlt, List.all_cons]
  rw [(List.getElem?_eq_some_iff.1 h).2]

/-- whether a rune may stand in a name, at its first place or behind it -/
def fitsAt (first : Bool) (r : Int) : Bool := isLetter r || (!first && (decide (r = 95) || isDigit r))
/-- whether runes go on as a name behind so many -/
def okFrom : Nat → List Int → Bool
  | acc, [] => decide (0 < acc)
  | acc, r :: t => decide (acc < 40) && fitsAt (acc == 0) r && okFrom (acc + 1) t
theorem nameRune_fits (r : Int) : nameRune r = fitsAt false r := by
  unfold nameRune fitsAt
  generalize isLetter r = a; generalize isDigit r = b; generalize decide (r = 95) = c
  cases a <;> cases b <;> cases c <;> rfl
theorem okFrom_pos : ∀ (l : List Int) (acc : Nat), 0 < acc → okFrom acc l = (decide (acc + l.length ≤ 40 ∨ l = []) && l.all nameRune)
  | [], acc, h => by simp [okFrom, h]
  | r :: t, acc, h => by
    have h0 : (acc == 0) = false := by simp; omega
    rw [okFrom, okFrom_pos t (acc + 1) (by omega), h0, ← nameRune_fits, List.all_cons]
    have e : (decide (acc < 40) && decide (acc + 1 + t.length ≤ 40 ∨ t = [])) = decide (acc + (r :: t).length ≤ 40 ∨ r :: t = []) := by
      rw [Bool.eq_iff_iff]
      simp only [Bool.and_eq_true, decide_eq_true_iff, List.length_cons, reduceCtorEq, or_false]
      constructor
      · rintro ⟨a, b | b⟩
        · omega
        · subst b; simp; omega
      · intro a; exact ⟨by omega, .inl (by omega)⟩
    rw [← e]
    generalize decide (acc < 40) = a; generalize decide (acc + 1 + t.length ≤ 40 ∨ t = []) = b; generalize nameRune r = c; generalize t.all nameRune = d
    cases a <;> cases b <;> cases c <;> cases d <;> rfl
theorem okFrom_name (l : List Int) : okFrom 0 l = nameOf l := by
  cases l with
  | nil => simp [okFrom, nameOf]
  | cons r t =>
    rw [okFrom, okFrom_pos t 1 (by omega)]
    unfold nameOf
    have e1 : fitsAt (0 == 0) r = isLetter r := by unfold fitsAt; simp
    rw [e1]
    have e2 : decide (1 ≤ (r :: t).length ∧ (r :: t).length ≤ 40) = decide (1 + t.length ≤ 40 ∨ t = []) := by
      rw [Bool.eq_iff_iff]
      simp only [decide_eq_true_iff, List.length_cons]
      constructor
      · intro a; exact .inl (by omega)
      · rintro (a | a)
        · omega
        · subst a; simp
    rw [e2, List.all_cons]
    have e3 : isLetter r = true → nameRune r = true := fun h => by unfold nameRune; rw [h]; rfl
    simp only [List.headD_cons]
    revert e3
    generalize isLetter r = a; generalize decide (1 + t.length ≤ 40 ∨ t = []) = b; generalize nameRune r = c; generalize t.all nameRune = d
    cases a <;> cases b <;> cases c <;> cases d <;> simp
end Go.Proofs.YtbfkaanmbdekfaaGreatDoor
namespace Go.Proofs.YtbfkaanmbdekfaaGreatDoor
set_option linter.unusedVariables false

def isSmall (r : Int) : Bool := decide (97 ≤ r ∧ r ≤ 122)
def isGreat (r : Int) : Bool := decide (65 ≤ r ∧ r ≤ 90)
/-- without the _, each part begun with a great letter; b: a part begins here -/
def camelL : Bool → List Int → List Int
  | _, [] => []
  | b, r :: t => if r = 95 then camelL true t else (if (b && isSmall r) = true then r - 32 else r) :: camelL false t
/-- great letters small, a _ ahead of each but the first rune -/
def snakeL : Bool → List Int → List Int
  | _, [] => []
  | f, r :: t => if isGreat r = true then (if f = true then (r + 32) :: snakeL false t else 95 :: (r + 32) :: snakeL false t) else r :: snakeL false t
/-- the bytes of runes -/
def encL (l : List Int) : List UInt8 := l.flatMap Lib.encodeRune
theorem encL_nil : encL [] = [] := rfl
theorem encL_cons (r : Int) (t : List Int) : encL (r :: t) = Lib.encodeRune r ++ encL t := by simp [encL]
theorem encL_append (a b : List Int) : encL (a ++ b) = encL a ++ encL b := by simp [encL]
theorem enc_len (r : Int) : 1 ≤ (Lib.encodeRune r).length ∧ (Lib.encodeRune r).length ≤ 4 := by
  have := Lib.runeCells_le r; rw [Lib.runeCells_length] at this; exact this
theorem encL_len : ∀ l : List Int, l.length ≤ (encL l).length ∧ (encL l).length ≤ 4 * l.length
  | [] => by simp [encL]
  | r :: t => by have := encL_len t; have := enc_len r; rw [encL_cons]; simp; omega
theorem enc_small (r : Int) (h : 0 ≤ r) (h1 : r ≤ 127) : Lib.encodeRune r = [UInt8.ofNat r.toNat] := by
  unfold Lib.encodeRune; rw [Lib.encodeRuneZ_one h h1]; rfl
theorem enc_two (r : Int) (h : 128 ≤ r) (h1 : r ≤ 2047) : Lib.encodeRune r = [UInt8.ofNat (192 + r / 64).toNat, UInt8.ofNat (128 + r % 64).toNat] := by
  unfold Lib.encodeRune; rw [Lib.encodeRuneZ_two h h1]; rfl

theorem get_pre (p t : List UInt8) (k : Nat) (x : UInt8) (h : t[k]? = some x) : (ByteArray.mk (p ++ t).toArray).get! (p.length + k) = x := by
  have h2 : (p ++ t)[p.length + k]? = some x := by rw [List.getElem?_append_right (by omega)]; simpa using h
  show (p ++ t).toArray[p.length + k]! = x
  rw [getElem!_def]
  simp [h2]
theorem size_pre (p t : List UInt8) : (ByteArray.mk (p ++ t).toArray).size = p.length + t.length := by
  show (p ++ t).toArray.size = _
  simp
theorem decode_enc1 (p t : List UInt8) (r : Int) (h : 0 ≤ r) (h1 : r ≤ 127) :
    Utf8.decode ⟨(p ++ (Lib.encodeRune r ++ t)).toArray⟩ p.length = (r.toNat, 1) := by
  rw [enc_small r h h1]
  have g0 := get_pre p ([UInt8.ofNat r.toNat] ++ t) 0 (UInt8.ofNat r.toNat) rfl
  have e0 : (UInt8.ofNat r.toNat).toNat = r.toNat := by simp; omega
  unfold Utf8.decode
  simp only [g0, e0]
  rw [if_pos (by omega)]
theorem decode_enc2 (p t : List UInt8) (r : Int) (h : 128 ≤ r) (h1 : r ≤ 2047) :
    Utf8.decode ⟨(p ++ (Lib.encodeRune r ++ t)).toArray⟩ p.length = (r.toNat, 2) := by
  rw [enc_two r h h1]
  have g0 := get_pre p ([UInt8.ofNat (192 + r / 64).toNat, UInt8.ofNat (128 + r % 64).toNat] ++ t) 0 _ rfl
  have g1 := get_pre p ([UInt8.ofNat (192 + r / 64).toNat, UInt8.ofNat (128 + r % 64).toNat] ++ t) 1 _ rfl
  have hz := size_pre p ([UInt8.ofNat (192 + r / 64).toNat, UInt8.ofNat (128 + r % 64).toNat] ++ t)
  have e0 : (UInt8.ofNat (192 + r / 64).toNat).toNat = (192 + r / 64).toNat := by simp; omega
  have e1 : (UInt8.ofNat (128 + r % 64).toNat).toNat = (128 + r % 64).toNat := by simp; omega
  unfold Utf8.decode
  simp only [g0, g1, e0, e1, hz]
  have a1 : ¬ (192 + r / 64).toNat < 128 := by omega
  have a2 : ((192 + r / 64).toNat / 32 == 6) = true := by simp; omega
  have a3 : (decide (p.length + 1 < p.length + ([UInt8.ofNat (192 + r / 64).toNat, UInt8.ofNat (128 + r % 64).toNat] ++ t).length) && (128 + r % 64).toNat / 64 == 2) = true := by simp; omega
  rw [if_neg a1, a2, a3]
  simp only [Bool.and_true, if_true]
  rw [if_pos (by omega)]
  congr 1
  omega
/-- a rune of one or two bytes -/
def two (r : Int) : Prop := 0 ≤ r ∧ r ≤ 2047
theorem decode_enc (p t : List UInt8) (r : Int) (h : two r) :
    Utf8.decode ⟨(p ++ (Lib.encodeRune r ++ t)).toArray⟩ p.length = (r.toNat, (Lib.encodeRune r).length) := by
  obtain ⟨h0, h1⟩ := h
  by_cases hr : r ≤ 127
  · rw [decode_enc1 p t r h0 hr, enc_small r h0 hr]; rfl
  · rw [decode_enc2 p t r (by omega) h1, enc_two r (by omega) h1]; rfl
theorem rns_enc : ∀ (l : List Int) (p : List UInt8) (b : Nat), (∀ r ∈ l, two r) → (encL l).length ≤ b → rns ⟨(p ++ encL l).toArray⟩ b p.length = l
  | [], p, b, _, _ => by
    refine rns_end _ _ _ ?_
    rw [size_pre]; simp [encL]
  | r :: t, p, b, h, hb => by
    have hr := h r List.mem_cons_self
    have hl := enc_len r
    have hsz := size_pre p (encL (r :: t))
    rw [encL_cons] at hb hsz ⊢
    rw [List.length_append] at hb hsz
    obtain ⟨b, rfl⟩ : ∃ b', b = b' + 1 := ⟨b - 1, by omega⟩
    rw [rns_step _ _ _ (by rw [hsz]; omega), decode_enc p (encL t) r hr]
    have e : (p ++ (Lib.encodeRune r ++ encL t)) = (p ++ Lib.encodeRune r) ++ encL t := by simp
    have ih := rns_enc t (p ++ Lib.encodeRune r) b (fun x hx => h x (List.mem_cons_of_mem _ hx)) (by omega)
    rw [← e, List.length_append] at ih
    rw [ih]
    congr 1
    have := hr.1
    show ((r.toNat : Nat) : Int) = r
    omega
/-- the runes of the bytes of runes -/
theorem runes_enc (l : List Int) (h : ∀ r ∈ l, two r) : runes ⟨(encL l).toArray⟩ = l := by
  have := rns_enc l [] (encL l).length h (Nat.le_refl _)
  simpa [runes, ByteArray.size] using this
theorem runeCount_rns (s : ByteArray) : ∀ b i, Lib.runeCountFrom s b i = (rns s b i).length
  | 0, i => rfl
  | b + 1, i => by
    rw [Lib.runeCountFrom, rns]
    split
    · rw [runeCount_rns s b, List.length_cons]; omega
    · rfl
theorem runeCount_runes (s : ByteArray) : Lib.runeCount s = (runes s).length := runeCount_rns s _ _

/-! the runes of a name are of one or two bytes, and its other forms' -/
theorem two_of_name {r : Int} (h : nameRune r = true) : two r := by
  unfold nameRune isLetter isDigit at h
  simp only [Bool.or_eq_true, decide_eq_true_iff] at h
  unfold two; omega
theorem camel_name : ∀ (l : List Int) (b : Bool), (∀ r ∈ l, nameRune r = true) → ∀ r ∈ camelL b l, nameRune r = true ∧ r ≠ 95
  | [], b, _, r, hr => by simp [camelL] at hr
  | x :: t, b, h, r, hr => by
    rw [camelL] at hr
    have ht := fun b' => camel_name t b' (fun y hy => h y (List.mem_cons_of_mem _ hy)) r
    split at hr
    · exact ht true hr
    · rename_i hx
      rcases List.mem_cons.1 hr with rfl | hr
      · have hn := h x List.mem_cons_self
        split
        · rename_i hb
          simp only [Bool.and_eq_true, isSmall, decide_eq_true_iff] at hb
          refine ⟨?_, by omega⟩
          unfold nameRune isLetter isDigit
          simp only [Bool.or_eq_true, decide_eq_true_iff]
          omega
        · exact ⟨hn, hx⟩
      · exact ht false hr
theorem snake_name : ∀ (l : List Int) (f : Bool), (∀ r ∈ l, nameRune r = true) → ∀ r ∈ snakeL f l, nameRune r = true
  | [], f, _, r, hr => by simp [snakeL] at hr
  | x :: t, f, h, r, hr => by
    rw [snakeL] at hr
    have ht := snake_name t false (fun y hy => h y (List.mem_cons_of_mem _ hy)) r
    have hn := h x List.mem_cons_self
    have h95 : nameRune 95 = true := by decide
    split at hr
    · rename_i hg
      have hs : nameRune (x + 32) = true := by
        simp only [isGreat, decide_eq_true_iff] at hg
        unfold nameRune isLetter isDigit
        simp only [Bool.or_eq_true, decide_eq_true_iff]
        omega
      split at hr
      · rcases List.mem_cons.1 hr with rfl | hr
        · exact hs
        · exact ht hr
      · rcases List.mem_cons.1 hr with rfl | hr
        · exact h95
        · rcases List.mem_cons.1 hr with rfl | hr
          · exact hs
          · exact ht hr
    · rcases List.mem_cons.1 hr with rfl | hr
      · exact hn
      · exact ht hr
theorem name_all {l : List Int} (h : nameOf l = true) : ∀ r ∈ l, nameRune r = true := by
  unfold nameOf at h
  simp only [Bool.and_eq_true, List.all_eq_true] at h
  exact h.2
theorem camel_len : ∀ (l : List Int) (b : Bool), (camelL b l).length ≤ l.length
  | [], b => by simp [camelL]
  | x :: t, b => by
    have := camel_len t true; have := camel_len t false
    rw [camelL]; split <;> simp <;> omega
theorem snake_len : ∀ (l : List Int) (f : Bool), (snakeL f l).length ≤ 2 * l.length
  | [], f => by simp [snakeL]
  | x :: t, f => by
    have := snake_len t false
    rw [snakeL]; split
    · split <;> simp <;> omega
    · simp; omega
end Go.Proofs.YtbfkaanmbdekfaaGreatDoor
namespace Go.Proofs.YtbfkaanmbdekfaaGreatDoor
set_option linter.unusedVariables false

/-- the rune at the head, and its bytes; -1: it is none -/
def nx (l : List UInt8) : Int × Nat :=
  if l = [] then (-1, 0) else if (Lib.decodeL l).1 = 65533 ∧ (Lib.decodeL l).2 ≤ 1 then (-1, (Lib.decodeL l).2) else ((Lib.decodeL l).1, (Lib.decodeL l).2)
theorem nx_width (l : List UInt8) (h : l ≠ []) : 1 ≤ (nx l).2 ∧ (nx l).2 ≤ l.length := by
  have h1 := Lib.decodeL_width l
  have h2 := Lib.decodeL_le l h
  unfold nx
  rw [if_neg h]
  split <;> exact ⟨h1, h2⟩
theorem nx_ascii (b : UInt8) (t : List UInt8) (h : b.toNat < 128) : nx (b :: t) = ((b.toNat : Int), 1) := by
  unfold nx
  rw [if_neg (by simp), Lib.decodeL_ascii b t h, if_neg (by omega)]
theorem nx_high (b : UInt8) (t : List UInt8) (h : 128 ≤ b.toNat) : (nx (b :: t)).1 = -1 ∨ 128 ≤ (nx (b :: t)).1 := by
  have hd : 128 ≤ (Lib.decodeL (b :: t)).1 := by
    unfold Lib.decodeL
    have := decode_high ⟨(b :: t).toArray⟩ 0 (by show 0 < (b :: t).toArray.size; simp) (show 128 ≤ b.toNat from h)
    exact this.1
  unfold nx
  rw [if_neg (by simp)]
  split
  · exact .inl rfl
  · right; show (128 : Int) ≤ ((Lib.decodeL (b :: t)).1 : Int); omega
theorem nx_le (l : List UInt8) : -1 ≤ (nx l).1 ∧ (nx l).1 ≤ 1114111 := by
  have h := Lib.decodeL_rune l
  unfold nx
  split
  · simp
  · split
    · simp
    · show (-1 : Int) ≤ ((Lib.decodeL l).1 : Int) ∧ ((Lib.decodeL l).1 : Int) ≤ 1114111
      omega

/-- how many bytes of letters, digits and _ stand at the head, and how many runes -/
def runL : Nat → List UInt8 → Nat × Nat
  | 0, _ => (0, 0)
  | f + 1, l => if l ≠ [] ∧ nameRune (nx l).1 = true then ((nx l).2 + (runL f (l.drop (nx l).2)).1, (runL f (l.drop (nx l).2)).2 + 1) else (0, 0)
/-- how many bytes there are up to a line feed, and how many runes -/
def skipL : Nat → List UInt8 → Nat × Nat
  | 0, _ => (0, 0)
  | f + 1, l => if l ≠ [] ∧ l.head? ≠ some 10 then ((nx l).2 + (skipL f (l.drop (nx l).2)).1, (skipL f (l.drop (nx l).2)).2 + 1) else (0, 0)
/-- the number that digits are -/
def numV (n : Int) (l : List UInt8) : Int := l.foldl (fun n b => 10 * n + ((b.toNat : Int) - 48)) n
def isDig (b : UInt8) : Bool := decide (48 ≤ b.toNat ∧ b.toNat ≤ 57)
/-- are digits a number? -/
def numL (l : List UInt8) : Bool := decide (l.length ≤ 10) && !(decide (l.head? = some 48) && decide (1 < l.length)) && decide (numV 0 l ≤ 2147483647)
def signR (r : Int) : Bool := decide (r = 123 ∨ r = 125 ∨ r = 40 ∨ r = 41 ∨ r = 61 ∨ r = 59 ∨ r = 46)
/-- is it a word? -/
def rightL (kind : Int) (t : List UInt8) (r : Int) : Bool :=
  if kind = 1 then nameOf (runes ⟨t.toArray⟩) else if kind = 2 then t.all isDig && numL t else signR r
def mkB (l : List UInt8) : ByteArray := ⟨l.toArray⟩
theorem mkB_data (x : ByteArray) : mkB x.data.toList = x := rfl
theorem mkB_list (l : List UInt8) : (mkB l).toList = l := by rw [ByteArray.toList_eq]; rfl
structure Wd where
  kind : Int
  text : List UInt8
  line : Nat
  col : Nat
/-- the kind, the bytes and the runes of what begins at the head -/
def headW (l : List UInt8) : Int × Nat × Nat :=
  if isLetter (nx l).1 = true then (1, runL l.length l) else if isDigit (nx l).1 = true then (2, runL l.length l) else (3, (nx l).2, 1)
/-- the words from here on, behind those that are told; the place and the error, if there is one -/
def lexL : Nat → List UInt8 → Nat → Nat → List Wd → List Wd × (Nat × Nat) × Int
  | 0, _, _, _, acc => (acc, (0, 0), 0)
  | f + 1, l, line, col, acc =>
    if l = [] then (acc, (0, 0), 0)
    else if (nx l).1 = 10 then lexL f (l.drop 1) (line + 1) 1 acc
    else if (nx l).1 = 32 ∨ (nx l).1 = 9 then lexL f (l.drop 1) line (col + 1) acc
    else if (nx l).1 = 47 ∧ l[1]? = some 47 then lexL f (l.drop (skipL l.length l).1) line (col + (skipL l.length l).2) acc
    else if rightL (headW l).1 (l.take (headW l).2.1) (nx l).1 = false then ([], (line, col), 6)
    else if acc.length = 4000 then ([], (line, col), 4)
    else lexL f (l.drop (headW l).2.1) line (col + (headW l).2.2) (acc ++ [⟨(headW l).1, l.take (headW l).2.1, line, col⟩])
theorem lexL_end (f line col : Nat) (acc : List Wd) : lexL f [] line col acc = (acc, (0, 0), 0) := by
  cases f with
  | zero => rfl
  | succ f => rw [lexL, if_pos rfl]
theorem lexL_feed (f : Nat) (l : List UInt8) (line col : Nat) (acc : List Wd) (h : l ≠ []) (hr : (nx l).1 = 10) : lexL (f + 1) l line col acc = lexL f (l.drop 1) (line + 1) 1 acc := by
  rw [lexL, if_neg h, if_pos hr]
theorem lexL_blank (f : Nat) (l : List UInt8) (line col : Nat) (acc : List Wd) (h : l ≠ []) (hr : (nx l).1 = 32 ∨ (nx l).1 = 9) : lexL (f + 1) l line col acc = lexL f (l.drop 1) line (col + 1) acc := by
  rw [lexL, if_neg h, if_neg (by omega), if_pos hr]
theorem lexL_remark (f : Nat) (l : List UInt8) (line col : Nat) (acc : List Wd) (h : l ≠ []) (hr : (nx l).1 = 47) (h1 : l[1]? = some 47) : lexL (f + 1) l line col acc = lexL f (l.drop (skipL l.length l).1) line (col + (skipL l.length l).2) acc := by
  rw [lexL, if_neg h, if_neg (by omega), if_neg (by omega), if_pos ⟨hr, h1⟩]
/-- where a word should begin -/
def begins (l : List UInt8) : Prop := l ≠ [] ∧ (nx l).1 ≠ 10 ∧ (nx l).1 ≠ 32 ∧ (nx l).1 ≠ 9 ∧ ¬ ((nx l).1 = 47 ∧ l[1]? = some 47)
theorem lexL_word (f : Nat) (l : List UInt8) (line col : Nat) (acc : List Wd) (h : begins l) : lexL (f + 1) l line col acc =
    if rightL (headW l).1 (l.take (headW l).2.1) (nx l).1 = false then ([], (line, col), 6)
    else if acc.length = 4000 then ([], (line, col), 4)
    else lexL f (l.drop (headW l).2.1) line (col + (headW l).2.2) (acc ++ [⟨(headW l).1, l.take (headW l).2.1, line, col⟩]) := by
  obtain ⟨h0, h1, h2, h3, h4⟩ := h
  rw [lexL, if_neg h0, if_neg h1, if_neg (by omega), if_neg h4]
theorem runL_le : ∀ (f : Nat) (l : List UInt8), (runL f l).1 ≤ l.length ∧ (runL f l).2 ≤ (runL f l).1
  | 0, l => by simp [runL]
  | f + 1, l => by
    unfold runL
    split
    · rename_i h
      have hw := nx_width l h.1
      have ih := runL_le f (l.drop (nx l).2)
      rw [List.length_drop] at ih
      simp only
      omega
    · simp
theorem skipL_le : ∀ (f : Nat) (l : List UInt8), (skipL f l).1 ≤ l.length ∧ (skipL f l).2 ≤ (skipL f l).1
  | 0, l => by simp [skipL]
  | f + 1, l => by
    unfold skipL
    split
    · rename_i h
      have hw := nx_width l h.1
      have ih := skipL_le f (l.drop (nx l).2)
      rw [List.length_drop] at ih
      simp only
      omega
    · simp
theorem skipL_step (f : Nat) (l : List UInt8) (h : l ≠ []) (hr : l.head? ≠ some 10) : skipL (f + 1) l = ((nx l).2 + (skipL f (l.drop (nx l).2)).1, (skipL f (l.drop (nx l).2)).2 + 1) := by rw [skipL, if_pos ⟨h, hr⟩]
theorem skipL_stop (f : Nat) (l : List UInt8) (h : l = [] ∨ l.head? = some 10) : skipL f l = (0, 0) := by
  cases f with
  | zero => rfl
  | succ f =>
    rw [skipL, if_neg]
    rintro ⟨h1, h2⟩
    rcases h with h | h
    · exact h1 h
    · exact h2 h
theorem runL_pos (f : Nat) (l : List UInt8) (h : l ≠ []) (hr : nameRune (nx l).1 = true) : 1 ≤ (runL (f + 1) l).1 ∧ 1 ≤ (runL (f + 1) l).2 := by
  have hw := nx_width l h
  rw [runL, if_pos ⟨h, hr⟩]
  simp only
  omega
theorem headW_bd (l : List UInt8) (h : l ≠ []) : 1 ≤ (headW l).2.1 ∧ (headW l).2.1 ≤ l.length ∧ (headW l).2.2 ≤ (headW l).2.1 ∧ ((headW l).1 = 1 ∨ (headW l).1 = 2 ∨ (headW l).1 = 3) := by
  have hw := nx_width l h
  have hl := runL_le l.length l
  obtain ⟨m, hm⟩ : ∃ m, l.length = m + 1 := ⟨l.length - 1, by omega⟩
  unfold headW
  split
  · rename_i hL
    have := runL_pos m l h (by unfold nameRune; rw [hL]; rfl)
    rw [hm] at hl ⊢
    exact ⟨this.1, hl.1, hl.2, .inl rfl⟩
  · split
    · rename_i hL hD
      have := runL_pos m l h (by unfold nameRune; rw [hD]; simp)
      rw [hm] at hl ⊢
      exact ⟨this.1, hl.1, hl.2, .inr (.inl rfl)⟩
    · exact ⟨hw.1, hw.2, hw.1, .inr (.inr rfl)⟩
/-- the words of a text -/
def wordsL (l : List UInt8) : List Wd × (Nat × Nat) × Int := if 20000 < l.length then ([], (1, 1), 4) else lexL l.length l 1 1 []
end Go.Proofs.YtbfkaanmbdekfaaGreatDoor
namespace Go.Proofs.YtbfkaanmbdekfaaGreatDoor
set_option linter.unusedVariables false

theorem drop_lt (l : List UInt8) (n : Nat) (h : l ≠ []) (hn : 1 ≤ n) : (l.drop n).length < l.length := by
  have : 0 < l.length := List.length_pos_iff.2 h
  rw [List.length_drop]; omega
theorem skipL_one (l : List UInt8) (h : l ≠ []) (hr : l.head? ≠ some 10) : 1 ≤ (skipL l.length l).1 := by
  obtain ⟨m, hm⟩ : ∃ m, l.length = m + 1 := ⟨l.length - 1, by have := List.length_pos_iff.2 h; omega⟩
  have := (nx_width l h).1
  rw [hm, skipL_step m l h hr]; simp only; omega
theorem head_nx (l : List UInt8) (h : l ≠ []) (hr : (nx l).1 ≠ 10) : l.head? ≠ some 10 := by
  cases l with
  | nil => exact absurd rfl h
  | cons b t =>
    intro e
    have : b = 10 := by simpa using e
    subst this
    rw [nx_ascii _ _ (by decide)] at hr
    exact hr rfl
/-- the rounds that are left over do nothing -/
theorem lexL_fuel : ∀ (f g : Nat) (l : List UInt8) (line col : Nat) (acc : List Wd), l.length ≤ f → l.length ≤ g → lexL f l line col acc = lexL g l line col acc
  | 0, g, l, line, col, acc, hf, hg => by
    obtain rfl : l = [] := List.eq_nil_of_length_eq_zero (by omega)
    rw [lexL_end, lexL_end]
  | f + 1, g, l, line, col, acc, hf, hg => by
    by_cases h0 : l = []
    · subst h0; rw [lexL_end, lexL_end]
    · have hp := List.length_pos_iff.2 h0
      obtain ⟨g, rfl⟩ : ∃ g', g = g' + 1 := ⟨g - 1, by omega⟩
      by_cases h10 : (nx l).1 = 10
      · rw [lexL_feed f l _ _ _ h0 h10, lexL_feed g l _ _ _ h0 h10]
        have := drop_lt l 1 h0 (by omega)
        exact lexL_fuel f g _ _ _ _ (by omega) (by omega)
      · by_cases hb : (nx l).1 = 32 ∨ (nx l).1 = 9
        · rw [lexL_blank f l _ _ _ h0 hb, lexL_blank g l _ _ _ h0 hb]
          have := drop_lt l 1 h0 (by omega)
          exact lexL_fuel f g _ _ _ _ (by omega) (by omega)
        · by_cases hr : (nx l).1 = 47 ∧ l[1]? = some 47
          · rw [lexL_remark f l _ _ _ h0 hr.1 hr.2, lexL_remark g l _ _ _ h0 hr.1 hr.2]
            have := drop_lt l _ h0 (skipL_one l h0 (head_nx l h0 h10))
            exact lexL_fuel f g _ _ _ _ (by omega) (by omega)
          · have hbg : begins l := ⟨h0, h10, fun h => hb (.inl h), fun h => hb (.inr h), hr⟩
            rw [lexL_word f l _ _ _ hbg, lexL_word g l _ _ _ hbg]
            have := drop_lt l _ h0 (headW_bd l h0).1
            split
            · rfl
            · split
              · rfl
              · exact lexL_fuel f g _ _ _ _ (by omega) (by omega)
/-- a word some lines further down -/
def down (k : Nat) (x : Wd) : Wd := ⟨x.kind, x.text, x.line + k, x.col⟩
theorem lexL_down (k : Nat) : ∀ (f : Nat) (l : List UInt8) (line col : Nat) (acc : List Wd), lexL f l (line + k) col (acc.map (down k)) =
    ((lexL f l line col acc).1.map (down k), (if (lexL f l line col acc).2.2 = 0 then (0, 0) else ((lexL f l line col acc).2.1.1 + k, (lexL f l line col acc).2.1.2)), (lexL f l line col acc).2.2)
  | 0, l, line, col, acc => by simp [lexL]
  | f + 1, l, line, col, acc => by
    by_cases h0 : l = []
    · subst h0; rw [lexL_end, lexL_end]; simp
    · by_cases h10 : (nx l).1 = 10
      · rw [lexL_feed f l _ _ _ h0 h10, lexL_feed f l _ _ _ h0 h10, show line + k + 1 = line + 1 + k by omega]
        exact lexL_down k f _ _ _ _
      · by_cases hb : (nx l).1 = 32 ∨ (nx l).1 = 9
        · rw [lexL_blank f l _ _ _ h0 hb, lexL_blank f l _ _ _ h0 hb]
          exact lexL_down k f _ _ _ _
        · by_cases hr : (nx l).1 = 47 ∧ l[1]? = some 47
          · rw [lexL_remark f l _ _ _ h0 hr.1 hr.2, lexL_remark f l _ _ _ h0 hr.1 hr.2]
            exact lexL_down k f _ _ _ _
          · have hbg : begins l := ⟨h0, h10, fun h => hb (.inl h), fun h => hb (.inr h), hr⟩
            rw [lexL_word f l _ _ _ hbg, lexL_word f l _ _ _ hbg, List.length_map]
            by_cases c1 : rightL (headW l).1 (l.take (headW l).2.1) (nx l).1 = false
            · simp only [if_pos c1]; simp
            · simp only [if_neg c1]
              by_cases c2 : acc.length = 4000
              · simp only [if_pos c2]; simp
              · simp only [if_neg c2]
                have ih := lexL_down k f (l.drop (headW l).2.1) line (col + (headW l).2.2) (acc ++ [⟨(headW l).1, l.take (headW l).2.1, line, col⟩])
                rw [List.map_append] at ih
                exact ih
/-- the words told so far, and the place at hand: places are from 1 on, and rise -/
structure Rise (line col : Nat) (acc : List Wd) : Prop where
  here : 1 ≤ line ∧ 1 ≤ col
  pos : ∀ x ∈ acc, 1 ≤ x.line ∧ 1 ≤ x.col
  up : ∀ (i : Nat) (x y : Wd), acc[i]? = some x → acc[i + 1]? = some y → x.line < y.line ∨ (x.line = y.line ∧ x.col < y.col)
  last : ∀ x, acc.getLast? = some x → x.line < line ∨ (x.line = line ∧ x.col < col)
theorem Rise.nil (line col : Nat) (h : 1 ≤ line ∧ 1 ≤ col) : Rise line col [] := ⟨h, by simp, by simp, by simp⟩
theorem Rise.on {line col : Nat} {acc : List Wd} (h : Rise line col acc) (line' col' : Nat) (hc : 1 ≤ col') (hl : line < line' ∨ (line = line' ∧ col ≤ col')) : Rise line' col' acc := by
  refine ⟨⟨by have := h.here; omega, hc⟩, h.pos, h.up, fun x hx => ?_⟩
  have := h.last x hx
  omega
theorem Rise.word {line col : Nat} {acc : List Wd} (h : Rise line col acc) (k : Int) (t : List UInt8) (m : Nat) (hm : 1 ≤ m) : Rise line (col + m) (acc ++ [⟨k, t, line, col⟩]) := by
  refine ⟨⟨h.here.1, by omega⟩, ?_, ?_, ?_⟩
  · intro x hx
    rcases List.mem_append.1 hx with hx | hx
    · exact h.pos x hx
    · have : x = ⟨k, t, line, col⟩ := by simpa using hx
      subst this; exact h.here
  · intro i x y hx hy
    by_cases hi : i + 1 < acc.length
    · rw [List.getElem?_append_left (by omega)] at hx
      rw [List.getElem?_append_left hi] at hy
      exact h.up i x y hx hy
    · have hil : i + 1 = acc.length := by
        have := (List.getElem?_eq_some_iff.1 hy).1
        simp at this; omega
      rw [hil, List.getElem?_append_right (by omega), Nat.sub_self] at hy
      have : y = ⟨k, t, line, col⟩ := by simpa using hy.symm
      subst this
      rw [List.getElem?_append_left (by omega)] at hx
      refine h.last x ?_
      rw [List.getLast?_eq_getElem?, ← hx]
      congr 1; omega
  · intro x hx
    rw [List.getLast?_append] at hx
    have : x = ⟨k, t, line, col⟩ := by simpa using hx.symm
    subst this
    right; exact ⟨rfl, by show col < col + m; omega⟩
theorem runes_one (l : List UInt8) (h : l ≠ []) : 1 ≤ (headW l).2.2 := by
  obtain ⟨m, hm⟩ : ∃ m, l.length = m + 1 := ⟨l.length - 1, by have := List.length_pos_iff.2 h; omega⟩
  unfold headW
  split
  · rename_i hL
    rw [hm]; exact (runL_pos m l h (by unfold nameRune; rw [hL]; rfl)).2
  · split
    · rename_i hL hD
      rw [hm]; exact (runL_pos m l h (by unfold nameRune; rw [hD]; simp)).2
    · exact Nat.le_refl _
theorem lexL_rise : ∀ (f : Nat) (l : List UInt8) (line col : Nat) (acc : List Wd), Rise line col acc → ∃ line' col', Rise line' col' (lexL f l line col acc).1
  | 0, l, line, col, acc, h => ⟨line, col, h⟩
  | f + 1, l, line, col, acc, h => by
    have hh := h.here
    by_cases h0 : l = []
    · subst h0; rw [lexL_end]; exact ⟨line, col, h⟩
    · by_cases h10 : (nx l).1 = 10
      · rw [lexL_feed f l _ _ _ h0 h10]; exact lexL_rise f _ _ _ _ (h.on _ _ (by omega) (by omega))
      · by_cases hb : (nx l).1 = 32 ∨ (nx l).1 = 9
        · rw [lexL_blank f l _ _ _ h0 hb]; exact lexL_rise f _ _ _ _ (h.on _ _ (by omega) (by omega))
        · by_cases hr : (nx l).1 = 47 ∧ l[1]? = some 47
          · rw [lexL_remark f l _ _ _ h0 hr.1 hr.2]; exact lexL_rise f _ _ _ _ (h.on _ _ (by omega) (by omega))
          · rw [lexL_word f l _ _ _ ⟨h0, h10, fun h => hb (.inl h), fun h => hb (.inr h), hr⟩]
            split
            · exact ⟨1, 1, Rise.nil _ _ (by omega)⟩
            · split
              · exact ⟨1, 1, Rise.nil _ _ (by omega)⟩
              · exact lexL_rise f _ _ _ _ (h.word _ _ _ (runes_one l h0))
theorem lexL_count : ∀ (f : Nat) (l : List UInt8) (line col : Nat) (acc : List Wd), acc.length ≤ 4000 → (lexL f l line col acc).1.length ≤ 4000
  | 0, l, line, col, acc, h => h
  | f + 1, l, line, col, acc, h => by
    by_cases h0 : l = []
    · subst h0; rw [lexL_end]; exact h
    · by_cases h10 : (nx l).1 = 10
      · rw [lexL_feed f l _ _ _ h0 h10]; exact lexL_count f _ _ _ _ h
      · by_cases hb : (nx l).1 = 32 ∨ (nx l).1 = 9
        · rw [lexL_blank f l _ _ _ h0 hb]; exact lexL_count f _ _ _ _ h
        · by_cases hr : (nx l).1 = 47 ∧ l[1]? = some 47
          · rw [lexL_remark f l _ _ _ h0 hr.1 hr.2]; exact lexL_count f _ _ _ _ h
          · rw [lexL_word f l _ _ _ ⟨h0, h10, fun h => hb (.inl h), fun h => hb (.inr h), hr⟩]
            split
            · simp
            · split
              · simp
              · exact lexL_count f _ _ _ _ (by simp; omega)
/-- lines are at most as many as there are bytes, and one -/
theorem lexL_lines (M : Nat) : ∀ (f : Nat) (l : List UInt8) (line col : Nat) (acc : List Wd), (∀ x ∈ acc, x.line ≤ M) → line + l.length ≤ M → (∀ x ∈ (lexL f l line col acc).1, x.line ≤ M) ∧ (lexL f l line col acc).2.1.1 ≤ M
  | 0, l, line, col, acc, h, hl => ⟨h, Nat.zero_le _⟩
  | f + 1, l, line, col, acc, h, hl => by
    by_cases h0 : l = []
    · subst h0; rw [lexL_end]; exact ⟨h, Nat.zero_le _⟩
    · have hp := List.length_pos_iff.2 h0
      by_cases h10 : (nx l).1 = 10
      · rw [lexL_feed f l _ _ _ h0 h10]; exact lexL_lines M f _ _ _ _ h (by rw [List.length_drop]; omega)
      · by_cases hb : (nx l).1 = 32 ∨ (nx l).1 = 9
        · rw [lexL_blank f l _ _ _ h0 hb]; exact lexL_lines M f _ _ _ _ h (by rw [List.length_drop]; omega)
        · by_cases hr : (nx l).1 = 47 ∧ l[1]? = some 47
          · rw [lexL_remark f l _ _ _ h0 hr.1 hr.2]; exact lexL_lines M f _ _ _ _ h (by rw [List.length_drop]; omega)
          · rw [lexL_word f l _ _ _ ⟨h0, h10, fun h => hb (.inl h), fun h => hb (.inr h), hr⟩]
            split
            · exact ⟨by simp, by show line ≤ M; omega⟩
            · split
              · exact ⟨by simp, by show line ≤ M; omega⟩
              · refine lexL_lines M f _ _ _ _ ?_ (by rw [List.length_drop]; omega)
                intro x hx
                rcases List.mem_append.1 hx with hx | hx
                · exact h x hx
                · have : x = ⟨(headW l).1, l.take (headW l).2.1, line, col⟩ := by simpa using hx
                  subst this; show line ≤ M; omega
theorem words_lines (l : List UInt8) : (∀ x ∈ (wordsL l).1, x.line ≤ 20001) ∧ (wordsL l).2.1.1 ≤ 20001 := by
  unfold wordsL
  split
  · exact ⟨by simp, by show 1 ≤ 20001; omega⟩
  · exact lexL_lines 20001 _ _ _ _ _ (by simp) (by omega)
theorem lexL_texts (M : Nat) : ∀ (f : Nat) (l : List UInt8) (line col : Nat) (acc : List Wd), (∀ x ∈ acc, x.text.length ≤ M) → l.length ≤ M → ∀ x ∈ (lexL f l line col acc).1, x.text.length ≤ M
  | 0, l, line, col, acc, h, hl => h
  | f + 1, l, line, col, acc, h, hl => by
    by_cases h0 : l = []
    · subst h0; rw [lexL_end]; exact h
    · by_cases h10 : (nx l).1 = 10
      · rw [lexL_feed f l _ _ _ h0 h10]; exact lexL_texts M f _ _ _ _ h (by rw [List.length_drop]; omega)
      · by_cases hb : (nx l).1 = 32 ∨ (nx l).1 = 9
        · rw [lexL_blank f l _ _ _ h0 hb]; exact lexL_texts M f _ _ _ _ h (by rw [List.length_drop]; omega)
        · by_cases hr : (nx l).1 = 47 ∧ l[1]? = some 47
          · rw [lexL_remark f l _ _ _ h0 hr.1 hr.2]; exact lexL_texts M f _ _ _ _ h (by rw [List.length_drop]; omega)
          · rw [lexL_word f l _ _ _ ⟨h0, h10, fun h => hb (.inl h), fun h => hb (.inr h), hr⟩]
            split
            · simp
            · split
              · simp
              · refine lexL_texts M f _ _ _ _ ?_ (by rw [List.length_drop]; omega)
                intro x hx
                rcases List.mem_append.1 hx with hx | hx
                · exact h x hx
                · have : x = ⟨(headW l).1, l.take (headW l).2.1, line, col⟩ := by simpa using hx
                  subst this; show (l.take _).length ≤ M; rw [List.length_take]; omega
theorem words_texts (l : List UInt8) : ∀ x ∈ (wordsL l).1, x.text.length ≤ 20000 := by
  unfold wordsL
  split
  · simp
  · exact lexL_texts 20000 _ _ _ _ _ (by simp) (by omega)
/-- places rise along a text's words -/
theorem words_rise (l : List UInt8) : ∃ line col, Rise line col (wordsL l).1 := by
  unfold wordsL
  split
  · exact ⟨1, 1, Rise.nil _ _ (by omega)⟩
  · exact lexL_rise _ _ _ _ _ (Rise.nil _ _ (by omega))
/-- behind a line feed -/
theorem words_feed (l : List UInt8) (h : l.length ≤ 10000) : wordsL (10 :: l) = ((wordsL l).1.map (down 1), (if (wordsL l).2.2 = 0 then (0, 0) else ((wordsL l).2.1.1 + 1, (wordsL l).2.1.2)), (wordsL l).2.2) := by
  unfold wordsL
  rw [if_neg (by simp; omega), if_neg (by omega), List.length_cons, lexL_feed _ _ _ _ _ (by simp) (by rw [nx_ascii _ _ (by decide)]; rfl)]
  exact lexL_down 1 l.length l 1 1 []
end Go.Proofs.YtbfkaanmbdekfaaGreatDoor
namespace Go.Proofs.YtbfkaanmbdekfaaGreatDoor
set_option linter.unusedVariables false

theorem get_app (s y : List UInt8) (k : Nat) (h : k < s.length + 1) : (ByteArray.mk (s ++ 10 :: y).toArray).get! (0 + k) = (ByteArray.mk (s ++ [10]).toArray).get! (0 + k) := by
  have e1 : (s ++ 10 :: y)[k]? = (s ++ [10])[k]? := by
    by_cases hk : k < s.length
    · rw [List.getElem?_append_left hk, List.getElem?_append_left hk]
    · have : k = s.length := by omega
      subst this
      rw [List.getElem?_append_right (by omega), List.getElem?_append_right (by omega)]; simp
  rw [Nat.zero_add]
  show (s ++ 10 :: y).toArray[k]! = (s ++ [10]).toArray[k]!
  rw [getElem!_def, getElem!_def]
  simp only [List.getElem?_toArray, e1]
theorem get_feed (s y : List UInt8) : (ByteArray.mk (s ++ 10 :: y).toArray).get! (0 + s.length) = 10 := by
  rw [Nat.zero_add]
  show (s ++ 10 :: y).toArray[s.length]! = 10
  rw [getElem!_def]
  simp
theorem size_app (s y : List UInt8) : (ByteArray.mk (s ++ 10 :: y).toArray).size = s.length + 1 + y.length := by
  show (s ++ 10 :: y).toArray.size = _
  simp; omega
/-- whether the k-th byte goes on a rune -/
def contA (A : ByteArray) (k : Nat) : Bool := decide (0 + k < A.size) && ((A.get! (0 + k)).toNat / 64 == 2)
theorem cont_end (s y : List UInt8) : contA ⟨(s ++ 10 :: y).toArray⟩ s.length = false := by
  unfold contA; rw [get_feed]; simp
theorem cont_app (s y : List UInt8) (k : Nat) (h : k < s.length + 1) : contA ⟨(s ++ 10 :: y).toArray⟩ k = contA ⟨(s ++ [10]).toArray⟩ k := by
  unfold contA
  rw [get_app s y k h, size_app, size_app s []]
  rw [decide_eq_true (by omega), decide_eq_true (by simp; omega)]

def dec4 (b0 b1 b2 b3 : Nat) (c1 c2 c3 : Bool) : Nat × Nat :=
  if b0 < 128 then (b0, 1)
  else if (b0 / 32 == 6 && c1) = true then (if b0 % 32 * 64 + b1 % 64 ≥ 128 then (b0 % 32 * 64 + b1 % 64, 2) else (65533, 1))
  else if (b0 / 16 == 14 && c1 && c2) = true then (if (decide (b0 % 16 * 4096 + b1 % 64 * 64 + b2 % 64 ≥ 2048) && Utf8.valid ((b0 % 16 * 4096 + b1 % 64 * 64 + b2 % 64 : Nat) : Int)) = true then (b0 % 16 * 4096 + b1 % 64 * 64 + b2 % 64, 3) else (65533, 1))
  else if (b0 / 8 == 30 && c1 && c2 && c3) = true then (if (decide (b0 % 8 * 262144 + b1 % 64 * 4096 + b2 % 64 * 64 + b3 % 64 ≥ 65536) && Utf8.valid ((b0 % 8 * 262144 + b1 % 64 * 4096 + b2 % 64 * 64 + b3 % 64 : Nat) : Int)) = true then (b0 % 8 * 262144 + b1 % 64 * 4096 + b2 % 64 * 64 + b3 % 64, 4) else (65533, 1))
  else (65533, 1)
theorem decode_dec4 (A : ByteArray) : Utf8.decode A 0 = dec4 (A.get! (0 + 0)).toNat (A.get! (0 + 1)).toNat (A.get! (0 + 2)).toNat (A.get! (0 + 3)).toNat (contA A 1) (contA A 2) (contA A 3) := rfl
theorem dec4_c1 (b0 b1 b2 b3 : Nat) (c2 c3 : Bool) : dec4 b0 b1 b2 b3 false c2 c3 = dec4 b0 0 0 0 false false false := by simp [dec4]
theorem dec4_c2 (b0 b1 b2 b3 : Nat) (c1 c3 : Bool) : dec4 b0 b1 b2 b3 c1 false c3 = dec4 b0 b1 0 0 c1 false false := by simp [dec4]
theorem dec4_c3 (b0 b1 b2 b3 : Nat) (c1 c2 : Bool) : dec4 b0 b1 b2 b3 c1 c2 false = dec4 b0 b1 b2 0 c1 c2 false := by simp [dec4]
theorem dec4_w1 (b0 b1 b2 b3 : Nat) (c2 c3 : Bool) : (dec4 b0 b1 b2 b3 false c2 c3).2 ≤ 1 := by
  unfold dec4; split <;> simp
theorem dec4_w2 (b0 b1 b2 b3 : Nat) (c1 c3 : Bool) : (dec4 b0 b1 b2 b3 c1 false c3).2 ≤ 2 := by
  unfold dec4; repeat' split
  all_goals simp_all
theorem dec4_w3 (b0 b1 b2 b3 : Nat) (c1 c2 : Bool) : (dec4 b0 b1 b2 b3 c1 c2 false).2 ≤ 3 := by
  unfold dec4; repeat' split
  all_goals simp_all
theorem dec4_w4 (b0 b1 b2 b3 : Nat) (c1 c2 c3 : Bool) : (dec4 b0 b1 b2 b3 c1 c2 c3).2 ≤ 4 := by
  unfold dec4; repeat' split
  all_goals simp
/-- the rune at the head, ahead of a line feed -/
theorem decode_local (s y : List UInt8) (h : s ≠ []) : Lib.decodeL (s ++ 10 :: y) = Lib.decodeL (s ++ [10]) ∧ (Lib.decodeL (s ++ 10 :: y)).2 ≤ s.length := by
  have hp := List.length_pos_iff.2 h
  unfold Lib.decodeL
  rw [decode_dec4, decode_dec4]
  have g := get_app s y
  have c := cont_app s y
  have ce := cont_end s y
  have ce0 := cont_end s []
  have hs : s.length = 1 ∨ s.length = 2 ∨ s.length = 3 ∨ 4 ≤ s.length := by omega
  rcases hs with hs | hs | hs | hs
  · rw [hs] at ce ce0
    rw [ce, ce0, g 0 (by omega), hs]
    exact ⟨(dec4_c1 _ _ _ _ _ _).trans (dec4_c1 _ _ _ _ _ _).symm, dec4_w1 _ _ _ _ _ _⟩
  · rw [hs] at ce ce0
    rw [ce, ce0, g 0 (by omega), g 1 (by omega), c 1 (by omega), hs]
    exact ⟨(dec4_c2 _ _ _ _ _ _).trans (dec4_c2 _ _ _ _ _ _).symm, dec4_w2 _ _ _ _ _ _⟩
  · rw [hs] at ce ce0
    rw [ce, ce0, g 0 (by omega), g 1 (by omega), g 2 (by omega), c 1 (by omega), c 2 (by omega), hs]
    exact ⟨(dec4_c3 _ _ _ _ _ _).trans (dec4_c3 _ _ _ _ _ _).symm, dec4_w3 _ _ _ _ _ _⟩
  · rw [g 0 (by omega), g 1 (by omega), g 2 (by omega), g 3 (by omega), c 1 (by omega), c 2 (by omega), c 3 (by omega)]
    exact ⟨rfl, Nat.le_trans (dec4_w4 _ _ _ _ _ _ _) hs⟩
theorem nx_local (s y : List UInt8) (h : s ≠ []) : nx (s ++ 10 :: y) = nx (s ++ [10]) ∧ (nx (s ++ 10 :: y)).2 ≤ s.length := by
  obtain ⟨h1, h2⟩ := decode_local s y h
  have e : nx (s ++ 10 :: y) = nx (s ++ [10]) := by
    unfold nx; rw [if_neg (c := s ++ 10 :: y = []) (by simp), if_neg (c := s ++ [10] = []) (by simp), h1]
  refine ⟨e, ?_⟩
  unfold nx
  rw [if_neg (c := s ++ 10 :: y = []) (by simp)]
  split <;> exact h2
theorem drop_local (s y : List UInt8) (n : Nat) (h : n ≤ s.length) : (s ++ 10 :: y).drop n = s.drop n ++ 10 :: y := by
  rw [List.drop_append_of_le_length h]
theorem nx_feed (y : List UInt8) : nx (10 :: y) = (10, 1) := nx_ascii 10 y (by decide)
theorem runL_local : ∀ (f : Nat) (s y : List UInt8), runL f (s ++ 10 :: y) = runL f (s ++ [10]) ∧ (runL f (s ++ 10 :: y)).1 ≤ s.length
  | 0, s, y => by simp [runL]
  | f + 1, s, y => by
    by_cases h : s = []
    · subst h
      have h1 : ∀ z : List UInt8, runL (f + 1) (10 :: z) = (0, 0) := fun z => by
        rw [runL, if_neg]
        rintro ⟨_, hh⟩
        rw [nx_feed] at hh
        exact absurd hh (by decide)
      simp only [List.nil_append]
      rw [h1, h1]; simp
    · obtain ⟨e1, e2⟩ := nx_local s y h
      have hd1 := drop_local s y _ e2
      have hd0 := drop_local s [] (nx (s ++ 10 :: y)).2 e2
      rw [runL, runL, ← e1]
      by_cases hn : nameRune (nx (s ++ 10 :: y)).1 = true
      · rw [if_pos ⟨by simp, hn⟩, if_pos ⟨by simp, hn⟩, hd1, hd0]
        obtain ⟨i1, i2⟩ := runL_local f (s.drop (nx (s ++ 10 :: y)).2) y
        rw [← i1]
        refine ⟨rfl, ?_⟩
        rw [List.length_drop] at i2
        simp only
        omega
      · rw [if_neg (fun h => hn h.2), if_neg (fun h => hn h.2)]; simp
theorem skipL_local : ∀ (f : Nat) (s y : List UInt8), skipL f (s ++ 10 :: y) = skipL f (s ++ [10]) ∧ (skipL f (s ++ 10 :: y)).1 ≤ s.length
  | 0, s, y => by simp [skipL]
  | f + 1, s, y => by
    by_cases h : s = []
    · subst h
      simp only [List.nil_append]
      rw [skipL_stop _ _ (.inr rfl), skipL_stop _ _ (.inr rfl)]; simp
    · obtain ⟨e1, e2⟩ := nx_local s y h
      have hd1 := drop_local s y _ e2
      have hd0 := drop_local s [] (nx (s ++ 10 :: y)).2 e2
      have hh : ∀ z : List UInt8, (s ++ 10 :: z).head? = s.head? := fun z => by
        cases s with
        | nil => exact absurd rfl h
        | cons a t => rfl
      rw [skipL, skipL, ← e1, hh, hh]
      by_cases hn : s.head? = some 10
      · rw [if_neg (fun h => h.2 hn), if_neg (fun h => h.2 hn)]; simp
      · rw [if_pos ⟨by simp, hn⟩, if_pos ⟨by simp, hn⟩, hd1, hd0]
        obtain ⟨i1, i2⟩ := skipL_local f (s.drop (nx (s ++ 10 :: y)).2) y
        rw [← i1]
        refine ⟨rfl, ?_⟩
        rw [List.length_drop] at i2
        simp only
        omega
end Go.Proofs.YtbfkaanmbdekfaaGreatDoor
namespace Go.Proofs.YtbfkaanmbdekfaaGreatDoor
set_option linter.unusedVariables false

theorem runL_fuel : ∀ (f g : Nat) (l : List UInt8), l.length ≤ f → l.length ≤ g → runL f l = runL g l
  | 0, g, l, hf, hg => by
    obtain rfl : l = [] := List.eq_nil_of_length_eq_zero (by omega)
    cases g with
    | zero => rfl
    | succ g => simp [runL]
  | f + 1, 0, l, hf, hg => by
    obtain rfl : l = [] := List.eq_nil_of_length_eq_zero (by omega)
    simp [runL]
  | f + 1, g + 1, l, hf, hg => by
    rw [runL, runL]
    by_cases h : l ≠ [] ∧ nameRune (nx l).1 = true
    · have := drop_lt l _ h.1 (nx_width l h.1).1
      rw [if_pos h, if_pos h, runL_fuel f g (l.drop (nx l).2) (by omega) (by omega)]
    · rw [if_neg h, if_neg h]
theorem skipL_fuel : ∀ (f g : Nat) (l : List UInt8), l.length ≤ f → l.length ≤ g → skipL f l = skipL g l
  | 0, g, l, hf, hg => by
    obtain rfl : l = [] := List.eq_nil_of_length_eq_zero (by omega)
    cases g with
    | zero => rfl
    | succ g => simp [skipL]
  | f + 1, 0, l, hf, hg => by
    obtain rfl : l = [] := List.eq_nil_of_length_eq_zero (by omega)
    simp [skipL]
  | f + 1, g + 1, l, hf, hg => by
    rw [skipL, skipL]
    by_cases h : l ≠ [] ∧ l.head? ≠ some 10
    · have := drop_lt l _ h.1 (nx_width l h.1).1
      rw [if_pos h, if_pos h, skipL_fuel f g (l.drop (nx l).2) (by omega) (by omega)]
    · rw [if_neg h, if_neg h]
theorem run_whole (s y : List UInt8) : runL (s ++ 10 :: y).length (s ++ 10 :: y) = runL (s ++ [10]).length (s ++ [10]) ∧ (runL (s ++ 10 :: y).length (s ++ 10 :: y)).1 ≤ s.length := by
  obtain ⟨h1, h2⟩ := runL_local (s ++ 10 :: y).length s y
  refine ⟨?_, h2⟩
  rw [h1]
  exact runL_fuel _ _ _ (by simp) (Nat.le_refl _)
theorem skip_whole (s y : List UInt8) : skipL (s ++ 10 :: y).length (s ++ 10 :: y) = skipL (s ++ [10]).length (s ++ [10]) ∧ (skipL (s ++ 10 :: y).length (s ++ 10 :: y)).1 ≤ s.length := by
  obtain ⟨h1, h2⟩ := skipL_local (s ++ 10 :: y).length s y
  refine ⟨?_, h2⟩
  rw [h1]
  exact skipL_fuel _ _ _ (by simp) (Nat.le_refl _)
theorem head_local (s y : List UInt8) (h : s ≠ []) : headW (s ++ 10 :: y) = headW (s ++ [10]) ∧ (headW (s ++ 10 :: y)).2.1 ≤ s.length := by
  obtain ⟨h1, h2⟩ := nx_local s y h
  obtain ⟨r1, r2⟩ := run_whole s y
  have e : headW (s ++ 10 :: y) = headW (s ++ [10]) := by unfold headW; rw [h1, r1]
  refine ⟨e, ?_⟩
  unfold headW
  split
  · exact r2
  · split
    · exact r2
    · exact h2
theorem at_local (s y : List UInt8) (h : s ≠ []) : (s ++ 10 :: y)[1]? = (s ++ [10])[1]? := by
  have hp := List.length_pos_iff.2 h
  by_cases h1 : 1 < s.length
  · rw [List.getElem?_append_left h1, List.getElem?_append_left h1]
  · rw [List.getElem?_append_right (by omega), List.getElem?_append_right (by omega), show s.length = 1 by omega]; rfl
theorem take_local (s y : List UInt8) (n : Nat) (h : n ≤ s.length) : (s ++ 10 :: y).take n = s.take n := by
  rw [List.take_append_of_le_length h]
/-- a text up to a line feed: it has an error, or it comes to what stands behind, with these words -/
theorem lex_prefix : ∀ (n : Nat) (s : List UInt8), s.length ≤ n → ∀ (line col : Nat) (acc : List Wd), acc.length ≤ 4000 →
    (∃ (p : Nat × Nat) (c : Int), c ≠ 0 ∧ ∀ (y : List UInt8) (f : Nat), (s ++ 10 :: y).length ≤ f → lexL f (s ++ 10 :: y) line col acc = ([], p, c)) ∨
    (∃ (line' : Nat) (acc' : List Wd), acc'.length ≤ 4000 ∧ ∀ (y : List UInt8) (f : Nat), (s ++ 10 :: y).length ≤ f → lexL f (s ++ 10 :: y) line col acc = lexL y.length y line' 1 acc')
  | n, [], hn, line, col, acc, hac => by
    refine .inr ⟨line + 1, acc, hac, fun y f hf => ?_⟩
    simp only [List.nil_append, List.length_cons] at hf ⊢
    obtain ⟨f, rfl⟩ : ∃ f', f = f' + 1 := ⟨f - 1, by omega⟩
    rw [lexL_feed f _ _ _ _ (by simp) (by rw [nx_feed])]
    exact lexL_fuel _ _ _ _ _ _ (by simpa using hf) (Nat.le_refl _)
  | 0, a :: s, hn, line, col, acc, hac => by simp at hn
  | n + 1, a :: s, hn, line, col, acc, hac => by
    have hne : a :: s ≠ [] := by simp
    have hnx := fun y => nx_local (a :: s) y hne
    obtain ⟨x, hx⟩ : ∃ x, nx (a :: s ++ [10]) = x := ⟨_, rfl⟩
    have hx1 : ∀ y, nx (a :: s ++ 10 :: y) = x := fun y => (hnx y).1.trans hx
    have hx2 : x.2 ≤ (a :: s).length := by have := (hnx []).2; rw [hx1] at this; exact this
    have hstep : ∀ (k : Nat), 1 ≤ k → k ≤ (a :: s).length → ∀ (line' col' : Nat) (acc' : List Wd), acc'.length ≤ 4000 →
        (∀ (y : List UInt8) (f : Nat), lexL (f + 1) (a :: s ++ 10 :: y) line col acc = lexL f ((a :: s ++ 10 :: y).drop k) line' col' acc') →
        (∃ (p : Nat × Nat) (c : Int), c ≠ 0 ∧ ∀ (y : List UInt8) (f : Nat), (a :: s ++ 10 :: y).length ≤ f → lexL f (a :: s ++ 10 :: y) line col acc = ([], p, c)) ∨
        (∃ (line' : Nat) (acc' : List Wd), acc'.length ≤ 4000 ∧ ∀ (y : List UInt8) (f : Nat), (a :: s ++ 10 :: y).length ≤ f → lexL f (a :: s ++ 10 :: y) line col acc = lexL y.length y line' 1 acc') := by
      intro k hk1 hk2 line' col' acc' hac' hl
      have hd : ∀ y, (a :: s ++ 10 :: y).drop k = (a :: s).drop k ++ 10 :: y := fun y => drop_local (a :: s) y k hk2
      have hlen : ((a :: s).drop k).length ≤ n := by rw [List.length_drop]; omega
      have hfu : ∀ y f, (a :: s ++ 10 :: y).length ≤ f + 1 → ((a :: s).drop k ++ 10 :: y).length ≤ f := fun y f hf => by
        simp only [List.length_append, List.length_drop, List.length_cons] at hf ⊢; omega
      rcases lex_prefix n _ hlen line' col' acc' hac' with ⟨p, c, hc, ih⟩ | ⟨l2, a2, ha2, ih⟩
      · refine .inl ⟨p, c, hc, fun y f hf => ?_⟩
        obtain ⟨f, rfl⟩ : ∃ f', f = f' + 1 := ⟨f - 1, by simp at hf; omega⟩
        rw [hl y f, hd y]
        exact ih y f (hfu y f hf)
      · refine .inr ⟨l2, a2, ha2, fun y f hf => ?_⟩
        obtain ⟨f, rfl⟩ : ∃ f', f = f' + 1 := ⟨f - 1, by simp at hf; omega⟩
        rw [hl y f, hd y]
        exact ih y f (hfu y f hf)
    by_cases h10 : x.1 = 10
    · exact hstep 1 (by omega) (by simp) (line + 1) 1 acc hac fun y f => lexL_feed f _ _ _ _ (by simp) (by rw [hx1]; exact h10)
    · by_cases hb : x.1 = 32 ∨ x.1 = 9
      · exact hstep 1 (by omega) (by simp) line (col + 1) acc hac fun y f => lexL_blank f _ _ _ _ (by simp) (by rw [hx1]; exact hb)
      · by_cases hr : x.1 = 47 ∧ (a :: s ++ [10])[1]? = some 47
        · have hsk := fun y => skip_whole (a :: s) y
          have h1 : 1 ≤ (skipL (a :: s ++ [10]).length (a :: s ++ [10])).1 := skipL_one _ (by simp) (head_nx _ (by simp) (by rw [hx]; exact h10))
          have h2 : (skipL (a :: s ++ [10]).length (a :: s ++ [10])).1 ≤ (a :: s).length := by have := (hsk []).2; exact this
          refine hstep _ h1 h2 line (col + (skipL (a :: s ++ [10]).length (a :: s ++ [10])).2) acc hac fun y f => ?_
          rw [lexL_remark f _ _ _ _ (by simp) (by rw [hx1]; exact hr.1) (by rw [at_local _ y hne]; exact hr.2), (hsk y).1]
        · have hbg : ∀ y, begins (a :: s ++ 10 :: y) := fun y => ⟨by simp, by rw [hx1]; exact h10, by rw [hx1]; exact fun h => hb (.inl h), by rw [hx1]; exact fun h => hb (.inr h), by rw [hx1, at_local _ y hne]; exact hr⟩
          have hhw := fun y => head_local (a :: s) y hne
          obtain ⟨H, hH⟩ : ∃ H, headW (a :: s ++ [10]) = H := ⟨_, rfl⟩
          have hH1 : ∀ y, headW (a :: s ++ 10 :: y) = H := fun y => (hhw y).1.trans hH
          have hH2 : H.2.1 ≤ (a :: s).length := by have := (hhw []).2; rw [hH1] at this; exact this
          have hH0 : 1 ≤ H.2.1 := by have := (headW_bd (a :: s ++ [10]) (by simp)).1; rw [hH] at this; exact this
          have hw : ∀ (y : List UInt8) (f : Nat), lexL (f + 1) (a :: s ++ 10 :: y) line col acc = if rightL H.1 ((a :: s).take H.2.1) x.1 = false then ([], (line, col), 6) else if acc.length = 4000 then ([], (line, col), 4) else lexL f ((a :: s ++ 10 :: y).drop H.2.1) line (col + H.2.2) (acc ++ [⟨H.1, (a :: s).take H.2.1, line, col⟩]) := fun y f => by
            rw [lexL_word f _ _ _ _ (hbg y), hH1, hx1, take_local _ y _ hH2]
          by_cases c1 : rightL H.1 ((a :: s).take H.2.1) x.1 = false
          · refine .inl ⟨(line, col), 6, by decide, fun y f hf => ?_⟩
            obtain ⟨f, rfl⟩ : ∃ f', f = f' + 1 := ⟨f - 1, by simp at hf; omega⟩
            rw [hw, if_pos c1]
          · by_cases c2 : acc.length = 4000
            · refine .inl ⟨(line, col), 4, by decide, fun y f hf => ?_⟩
              obtain ⟨f, rfl⟩ : ∃ f', f = f' + 1 := ⟨f - 1, by simp at hf; omega⟩
              rw [hw, if_neg c1, if_pos c2]
            · refine hstep _ hH0 hH2 line (col + H.2.2) (acc ++ [⟨H.1, (a :: s).take H.2.1, line, col⟩]) (by simp; omega) fun y f => ?_
              rw [hw, if_neg c1, if_neg c2]
/-- the kinds and texts of words -/
def kt (l : List Wd) : List (Int × List UInt8) := l.map fun x => (x.kind, x.text)
theorem kt_len (l : List Wd) : (kt l).length = l.length := by simp [kt]
/-- places say nothing -/
theorem lexL_kt : ∀ (f : Nat) (l : List UInt8) (line col : Nat) (acc : List Wd) (line2 col2 : Nat) (acc2 : List Wd), kt acc = kt acc2 →
    kt (lexL f l line col acc).1 = kt (lexL f l line2 col2 acc2).1 ∧ (lexL f l line col acc).2.2 = (lexL f l line2 col2 acc2).2.2
  | 0, l, line, col, acc, line2, col2, acc2, h => ⟨h, rfl⟩
  | f + 1, l, line, col, acc, line2, col2, acc2, h => by
    have hlen : acc.length = acc2.length := by rw [← kt_len, ← kt_len, h]
    by_cases h0 : l = []
    · subst h0; rw [lexL_end, lexL_end]; exact ⟨h, rfl⟩
    · by_cases h10 : (nx l).1 = 10
      · rw [lexL_feed f l _ _ _ h0 h10, lexL_feed f l _ _ _ h0 h10]; exact lexL_kt f _ _ _ _ _ _ _ h
      · by_cases hb : (nx l).1 = 32 ∨ (nx l).1 = 9
        · rw [lexL_blank f l _ _ _ h0 hb, lexL_blank f l _ _ _ h0 hb]; exact lexL_kt f _ _ _ _ _ _ _ h
        · by_cases hr : (nx l).1 = 47 ∧ l[1]? = some 47
          · rw [lexL_remark f l _ _ _ h0 hr.1 hr.2, lexL_remark f l _ _ _ h0 hr.1 hr.2]; exact lexL_kt f _ _ _ _ _ _ _ h
          · have hbg : begins l := ⟨h0, h10, fun h => hb (.inl h), fun h => hb (.inr h), hr⟩
            rw [lexL_word f l _ _ _ hbg, lexL_word f l _ _ _ hbg, ← hlen]
            by_cases c1 : rightL (headW l).1 (l.take (headW l).2.1) (nx l).1 = false
            · simp only [if_pos c1]; exact ⟨trivial, trivial⟩
            · simp only [if_neg c1]
              by_cases c2 : acc.length = 4000
              · simp only [if_pos c2]; exact ⟨trivial, trivial⟩
              · simp only [if_neg c2]
                exact lexL_kt f _ _ _ _ _ _ _ (by unfold kt at h ⊢; rw [List.map_append, List.map_append, h]; rfl)
theorem skip_all : ∀ (n : Nat) (r y : List UInt8), r.length ≤ n → (∀ b ∈ r, b ≠ 10) → ∀ f, r.length ≤ f → (skipL f (r ++ 10 :: y)).1 = r.length
  | n, [], y, hn, h, f, hf => by
    simp only [List.nil_append]
    rw [skipL_stop _ _ (.inr rfl)]; rfl
  | 0, a :: r, y, hn, h, f, hf => by simp at hn
  | n + 1, a :: r, y, hn, h, f, hf => by
    obtain ⟨f, rfl⟩ : ∃ f', f = f' + 1 := ⟨f - 1, by simp at hf; omega⟩
    obtain ⟨_, h2⟩ := nx_local (a :: r) y (by simp)
    have hw := (nx_width (a :: r ++ 10 :: y) (by simp)).1
    rw [skipL_step f _ (by simp) (by have := h a List.mem_cons_self; simpa using this), drop_local _ y _ h2]
    simp only
    rw [skip_all n _ y (by rw [List.length_drop]; omega) (fun b hb => h b (List.mem_of_mem_drop hb)) f (by rw [List.length_drop]; omega), List.length_drop]
    omega
/-- a remark in a line of its own says nothing -/
theorem words_remark (s r b : List UInt8) (hs : s.length ≤ 5000) (hr : r.length ≤ 5000) (hb : b.length ≤ 5000) (h10 : ∀ x ∈ r, x ≠ 10) :
    (wordsL (s ++ 10 :: b)).2.2 = (wordsL (s ++ 10 :: 47 :: 47 :: (r ++ 10 :: b))).2.2 ∧ kt (wordsL (s ++ 10 :: b)).1 = kt (wordsL (s ++ 10 :: 47 :: 47 :: (r ++ 10 :: b))).1 := by
  unfold wordsL
  rw [if_neg (by simp; omega), if_neg (by simp; omega)]
  rcases lex_prefix s.length s (Nat.le_refl _) 1 1 [] (by simp) with ⟨p, c, hc, ih⟩ | ⟨l2, a2, ha2, ih⟩
  · rw [ih _ _ (Nat.le_refl _), ih _ _ (Nat.le_refl _)]; exact ⟨rfl, rfl⟩
  · rw [ih _ _ (Nat.le_refl _), ih _ _ (Nat.le_refl _)]
    have hsk := skip_all (47 :: 47 :: r).length (47 :: 47 :: r) b (Nat.le_refl _) (by
      intro x hx
      rcases List.mem_cons.1 hx with rfl | hx
      · decide
      · rcases List.mem_cons.1 hx with rfl | hx
        · decide
        · exact h10 x hx) (47 :: 47 :: (r ++ 10 :: b)).length (by simp)
    have e : lexL (47 :: 47 :: (r ++ 10 :: b)).length (47 :: 47 :: (r ++ 10 :: b)) l2 1 a2 = lexL b.length b (l2 + 1) 1 a2 := by
      have hm : (47 :: 47 :: (r ++ 10 :: b) : List UInt8).length = ((47 :: (r ++ 10 :: b) : List UInt8).length) + 1 := rfl
      rw [hm, lexL_remark _ _ _ _ _ (by simp) (by rw [nx_ascii _ _ (by decide)]; rfl) rfl]
      have hsk' : (skipL (47 :: 47 :: (r ++ 10 :: b)).length (47 :: 47 :: (r ++ 10 :: b))).1 = (47 :: 47 :: r).length := hsk
      rw [hsk']
      have hd : (47 :: 47 :: (r ++ 10 :: b) : List UInt8).drop (47 :: 47 :: r).length = 10 :: b := by
        show ((47 :: 47 :: r) ++ 10 :: b).drop (47 :: 47 :: r).length = _
        rw [List.drop_left]
      rw [hd]
      have hf2 : (47 :: (r ++ 10 :: b) : List UInt8).length = (r ++ b).length + 1 + 1 := by simp; omega
      rw [hf2, lexL_feed _ _ _ _ _ (by simp) (by rw [nx_feed])]
      exact lexL_fuel _ _ _ _ _ _ (by show b.length ≤ (r ++ b).length + 1; rw [List.length_append]; omega) (Nat.le_refl _)
    rw [e]
    have := lexL_kt b.length b l2 1 a2 (l2 + 1) 1 a2 rfl
    exact ⟨this.2, this.1⟩
end Go.Proofs.YtbfkaanmbdekfaaGreatDoor
