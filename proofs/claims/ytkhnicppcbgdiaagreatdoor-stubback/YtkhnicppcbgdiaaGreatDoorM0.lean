/-
  The runes of a text, and which of them make a name: plain words of this seat. Nothing is proved of the program here.
  The other forms of a name, as lists of runes, and their bytes: plain words and facts of this seat. Nothing is proved of the program here.
  The words of a text, as plain functions over its bytes: what stands at its head, how far a name or a number goes, how far a remark; and the words with their places. Nothing is proved of the program here.
  A remark says nothing: how a text is read up to a line feed does not hang on what stands behind it. Nothing is proved of the program here.
  What is written of the words, a blank behind each, has the same words. Nothing is proved of the program here.
-/
import Derived.WalkKit
import Derived.ProofKit
import Derived.Below
import Derived.Laws.RangeAny
import Derived.Laws.IdiomStrings
import Derived.Lib.Strings
import Derived.Lib.RuneBytes
import Derived.Lib.RuneCount
import Derived.Lib.TrimUEq
import Derived.Lib.MapLaws
import Derived.Lib.TrimAscii
namespace Go.Proofs.YtkhnicppcbgdiaaGreatDoor
set_option linter.unusedVariables false
open Go.ChangeShapes Go.WideShapes Go.ChangeAt Go.RowKit

theorem len_data (s : ByteArray) : s.data.toList.length = s.size := by first | exact Lib.size_eq s | exact (Lib.size_eq s).symm
theorem at_data (s : ByteArray) (k : Nat) (h : k < s.size) : s.data.toList[k]? = some (s[k]'h) := by
  rw [List.getElem?_eq_getElem (by rw [len_data]; exact h)]; rfl
/-- the runes from a place on -/
def rns (s : ByteArray) : Nat → Nat → List Int
  | 0, _ => []
  | f + 1, i => if i < s.size then ((Utf8.decode s i).1 : Int) :: rns s f (i + (Utf8.decode s i).2) else []
/-- the runes of a text -/
def runes (s : ByteArray) : List Int := rns s s.size 0
theorem runesFrom_rns (s : ByteArray) : ∀ (b i : Nat) (acc : Array Value), Conv.runesFrom s b i acc = acc ++ ((rns s b i).map (Value.int .i32)).toArray
  | 0, i, acc => by simp [Conv.runesFrom, rns]
  | b + 1, i, acc => by
    unfold Conv.runesFrom rns
    split
    · show Conv.runesFrom s b (i + (Utf8.decode s i).2) (acc.push (.int .i32 (Int.ofNat (Utf8.decode s i).1))) = _
      rw [runesFrom_rns s b]
      simp
    · simp
theorem runes_eq (s : ByteArray) : Conv.runesFrom s s.size 0 #[] = ((runes s).map (Value.int .i32)).toArray := by
  rw [runesFrom_rns]; simp [runes]
theorem rns_len (s : ByteArray) : ∀ b i, (rns s b i).length ≤ b
  | 0, i => by simp [rns]
  | b + 1, i => by
    unfold rns
    split
    · have := rns_len s b (i + (Utf8.decode s i).2); simp; omega
    · simp
theorem runes_len (s : ByteArray) : (runes s).length ≤ s.size := rns_len s _ _
theorem rns_step (s : ByteArray) (b i : Nat) (h : i < s.size) : rns s (b + 1) i = ((Utf8.decode s i).1 : Int) :: rns s b (i + (Utf8.decode s i).2) := by
  rw [rns, if_pos h]
theorem rns_end (s : ByteArray) (b i : Nat) (h : ¬ i < s.size) : rns s b i = [] := by
  cases b with
  | zero => rfl
  | succ b => rw [rns, if_neg h]
theorem width_pos (s : ByteArray) (pos : Nat) (h : pos < s.size) : 1 ≤ (Utf8.decode s pos).2 := by
  by_cases ha : (s[pos]'h).toNat < 128
  · rw [decode_ascii s pos h ha]
    exact Nat.le_refl _
  · exact (decode_high s pos h (by omega)).2

/-- whether a rune is a letter -/
def isLetter (r : Int) : Bool := decide ((97 ≤ r ∧ r ≤ 122) ∨ (65 ≤ r ∧ r ≤ 90) ∨ (913 ≤ r ∧ r ≤ 969))
def isDigit (r : Int) : Bool := decide (48 ≤ r ∧ r ≤ 57)
theorem retB {a b : Bool} (h : a = b) : Ending.returned (.bool a) = .returned (.bool b) := by rw [h]
/-- whether a rune may stand in a name -/
def nameRune (r : Int) : Bool := isLetter r || isDigit r || decide (r = 95)
/-- whether runes are a name -/
def nameOf (l : List Int) : Bool := decide (1 ≤ l.length ∧ l.length ≤ 40) && isLetter (l.headD 0) && l.all nameRune
theorem all_drop {l : List Int} {k : Nat} {z : Int} (h : l[k]? = some z) (p : Int → Bool) : (l.drop k).all p = (p z && (l.drop (k + 1)).all p) := by
  have hlt := (List.getElem?_eq_some_iff.1 h).1
  rw [List.drop_eq_getElem_cons hlt, List.all_cons]
  rw [(List.getElem?_eq_some_iff.1 h).2]

/-- whether a rune may stand in a name, at its first place or behind it -/
def fitsAt (first : Bool) (r : Int) : Bool := isLetter r || (!first && (decide (r = 95) || isDigit r))
/-- whether runes go on as a name behind so many -/
def okFrom : Nat → List Int → Bool
  | acc, [] => decide (0 < acc)
  | acc, r :: t => decide (acc < 40) && fitsAt (acc == 0) r && okFrom (acc + 1) t
theorem nameRune_fits (r : Int) : nameRune r = fitsAt false r := by
  unfold nameRune fitsAt
  generalize isLetter r = a; generalize isDigit r = b; generalize decide (r = 95) = c
  cases a <;> cases b <;> cases c <;> rfl
theorem okFrom_pos : ∀ (l : List Int) (acc : Nat), 0 < acc → okFrom acc l = (decide (acc + l.length ≤ 40 ∨ l = []) && l.all nameRune)
  | [], acc, h => by simp [okFrom, h]
  | r :: t, acc, h => by
    have h0 : (acc == 0) = false := by simp; omega
    rw [okFrom, okFrom_pos t (acc + 1) (by omega), h0, ← nameRune_fits, List.all_cons]
    have e : (decide (acc < 40) && decide (acc + 1 + t.length ≤ 40 ∨ t = [])) = decide (acc + (r :: t).length ≤ 40 ∨ r :: t = []) := by
      rw [Bool.eq_iff_iff]
      simp only [Bool.and_eq_true, decide_eq_true_iff, List.length_cons, reduceCtorEq, or_false]
      constructor
      · rintro ⟨a, b | b⟩
        · omega
        · subst b; simp; omega
      · intro a; exact ⟨by omega, .inl (by omega)⟩
    rw [← e]
    generalize decide (acc < 40) = a; generalize decide (acc + 1 + t.length ≤ 40 ∨ t = []) = b; generalize nameRune r = c; generalize t.all nameRune = d
    cases a <;> cases b <;> cases c <;> cases d <;> rfl
theorem okFrom_name (l : List Int) : okFrom 0 l = nameOf l := by
  cases l with
  | nil => simp [okFrom, nameOf]
  | cons r t =>
    rw [okFrom, okFrom_pos t 1 (by omega)]
    unfold nameOf
    have e1 : fitsAt (0 == 0) r = isLetter r := by unfold fitsAt; simp
    rw [e1]
    have e2 : decide (1 ≤ (r :: t).length ∧ (r :: t).length ≤ 40) = decide (1 + t.length ≤ 40 ∨ t = []) := by
      rw [Bool.eq_iff_iff]
      simp only [decide_eq_true_iff, List.length_cons]
      constructor
      · intro a; exact .inl (by omega)
      · rintro (a | a)
        · omega
        · subst a; simp
    rw [e2, List.all_cons]
    have e3 : isLetter r = true → nameRune r = true := fun h => by unfold nameRune; rw [h]; rfl
    simp only [List.headD_cons]
    revert e3
    generalize isLetter r = a; generalize decide (1 + t.length ≤ 40 ∨ t = []) = b; generalize nameRune r = c; generalize t.all nameRune = d
    cases a <;> cases b <;> cases c <;> cases d <;> simp
end Go.Proofs.YtkhnicppcbgdiaaGreatDoor
namespace Go.Proofs.YtkhnicppcbgdiaaGreatDoor
set_option linter.unusedVariables false

def isSmall (r : Int) : Bool := decide (97 ≤ r ∧ r ≤ 122)
def isGreat (r : Int) : Bool := decide (65 ≤ r ∧ r ≤ 90)
/-- without the _, each part begun with a great letter; b: a part begins here -/
def camelL : Bool → List Int → List Int
  | _, [] => []
  | b, r :: t => if r = 95 then camelL true t else (if (b && isSmall r) = true then r - 32 else r) :: camelL false t
/-- the bytes of runes -/
def encL (l : List Int) : List UInt8 := l.flatMap Lib.encodeRune
theorem encL_nil : encL [] = [] := rfl
theorem encL_cons (r : Int) (t : List Int) : encL (r :: t) = Lib.encodeRune r ++ encL t := by simp [encL]
theorem encL_append (a b : List Int) : encL (a ++ b) = encL a ++ encL b := by simp [encL]
theorem enc_len (r : Int) : 1 ≤ (Lib.encodeRune r).length ∧ (Lib.encodeRune r).length ≤ 4 := by
  have := Lib.runeCells_le r; rw [Lib.runeCells_length] at this; exact this
theorem enc_small (r : Int) (h : 0 ≤ r) (h1 : r ≤ 127) : Lib.encodeRune r = [UInt8.ofNat r.toNat] := by
  unfold Lib.encodeRune; rw [Lib.encodeRuneZ_one h h1]; rfl
theorem enc_two (r : Int) (h : 128 ≤ r) (h1 : r ≤ 2047) : Lib.encodeRune r = [UInt8.ofNat (192 + r / 64).toNat, UInt8.ofNat (128 + r % 64).toNat] := by
  unfold Lib.encodeRune; rw [Lib.encodeRuneZ_two h h1]; rfl

theorem get_pre (p t : List UInt8) (k : Nat) (x : UInt8) (h : t[k]? = some x) : (ByteArray.mk (p ++ t).toArray).get! (p.length + k) = x := by
  have h2 : (p ++ t)[p.length + k]? = some x := by rw [List.getElem?_append_right (by omega)]; simpa using h
  show (p ++ t).toArray[p.length + k]! = x
  rw [getElem!_def]
  simp [h2]
theorem size_pre (p t : List UInt8) : (ByteArray.mk (p ++ t).toArray).size = p.length + t.length := by
  show (p ++ t).toArray.size = _
  simp
theorem decode_enc1 (p t : List UInt8) (r : Int) (h : 0 ≤ r) (h1 : r ≤ 127) :
    Utf8.decode ⟨(p ++ (Lib.encodeRune r ++ t)).toArray⟩ p.length = (r.toNat, 1) := by
  rw [enc_small r h h1]
  have g0 := get_pre p ([UInt8.ofNat r.toNat] ++ t) 0 (UInt8.ofNat r.toNat) rfl
  have e0 : (UInt8.ofNat r.toNat).toNat = r.toNat := by simp; omega
  unfold Utf8.decode
  simp only [g0, e0]
  rw [if_pos (by omega)]
theorem decode_enc2 (p t : List UInt8) (r : Int) (h : 128 ≤ r) (h1 : r ≤ 2047) :
    Utf8.decode ⟨(p ++ (Lib.encodeRune r ++ t)).toArray⟩ p.length = (r.toNat, 2) := by
  rw [enc_two r h h1]
  have g0 := get_pre p ([UInt8.ofNat (192 + r / 64).toNat, UInt8.ofNat (128 + r % 64).toNat] ++ t) 0 _ rfl
  have g1 := get_pre p ([UInt8.ofNat (192 + r / 64).toNat, UInt8.ofNat (128 + r % 64).toNat] ++ t) 1 _ rfl
  have hz := size_pre p ([UInt8.ofNat (192 + r / 64).toNat, UInt8.ofNat (128 + r % 64).toNat] ++ t)
  have e0 : (UInt8.ofNat (192 + r / 64).toNat).toNat = (192 + r / 64).toNat := by simp; omega
  have e1 : (UInt8.ofNat (128 + r % 64).toNat).toNat = (128 + r % 64).toNat := by simp; omega
  unfold Utf8.decode
  simp only [g0, g1, e0, e1, hz]
  have a1 : ¬ (192 + r / 64).toNat < 128 := by omega
  have a2 : ((192 + r / 64).toNat / 32 == 6) = true := by simp; omega
  have a3 : (decide (p.length + 1 < p.length + ([UInt8.ofNat (192 + r / 64).toNat, UInt8.ofNat (128 + r % 64).toNat] ++ t).length) && (128 + r % 64).toNat / 64 == 2) = true := by simp; omega
  rw [if_neg a1, a2, a3]
  simp only [Bool.and_true, if_true]
  rw [if_pos (by omega)]
  congr 1
  omega
/-- a rune of one or two bytes -/
def two (r : Int) : Prop := 0 ≤ r ∧ r ≤ 2047
theorem decode_enc (p t : List UInt8) (r : Int) (h : two r) :
    Utf8.decode ⟨(p ++ (Lib.encodeRune r ++ t)).toArray⟩ p.length = (r.toNat, (Lib.encodeRune r).length) := by
  obtain ⟨h0, h1⟩ := h
  by_cases hr : r ≤ 127
  · rw [decode_enc1 p t r h0 hr, enc_small r h0 hr]; rfl
  · rw [decode_enc2 p t r (by omega) h1, enc_two r (by omega) h1]; rfl
theorem rns_enc : ∀ (l : List Int) (p : List UInt8) (b : Nat), (∀ r ∈ l, two r) → (encL l).length ≤ b → rns ⟨(p ++ encL l).toArray⟩ b p.length = l
  | [], p, b, _, _ => by
    refine rns_end _ _ _ ?_
    rw [size_pre]; simp [encL]
  | r :: t, p, b, h, hb => by
    have hr := h r List.mem_cons_self
    have hl := enc_len r
    have hsz := size_pre p (encL (r :: t))
    rw [encL_cons] at hb hsz ⊢
    rw [List.length_append] at hb hsz
    obtain ⟨b, rfl⟩ : ∃ b', b = b' + 1 := ⟨b - 1, by omega⟩
    rw [rns_step _ _ _ (by rw [hsz]; omega), decode_enc p (encL t) r hr]
    have e : (p ++ (Lib.encodeRune r ++ encL t)) = (p ++ Lib.encodeRune r) ++ encL t := by simp
    have ih := rns_enc t (p ++ Lib.encodeRune r) b (fun x hx => h x (List.mem_cons_of_mem _ hx)) (by omega)
    rw [← e, List.length_append] at ih
    rw [ih]
    congr 1
    have := hr.1
    show ((r.toNat : Nat) : Int) = r
    omega
/-- the runes of the bytes of runes -/
theorem runes_enc (l : List Int) (h : ∀ r ∈ l, two r) : runes ⟨(encL l).toArray⟩ = l := by
  have := rns_enc l [] (encL l).length h (Nat.le_refl _)
  simpa [runes, ByteArray.size] using this
/-! the runes of a name are of one or two bytes, and its other forms' -/
theorem two_of_name {r : Int} (h : nameRune r = true) : two r := by
  unfold nameRune isLetter isDigit at h
  simp only [Bool.or_eq_true, decide_eq_true_iff] at h
  unfold two; omega
theorem camel_name : ∀ (l : List Int) (b : Bool), (∀ r ∈ l, nameRune r = true) → ∀ r ∈ camelL b l, nameRune r = true ∧ r ≠ 95
  | [], b, _, r, hr => by simp [camelL] at hr
  | x :: t, b, h, r, hr => by
    rw [camelL] at hr
    have ht := fun b' => camel_name t b' (fun y hy => h y (List.mem_cons_of_mem _ hy)) r
    split at hr
    · exact ht true hr
    · rename_i hx
      rcases List.mem_cons.1 hr with rfl | hr
      · have hn := h x List.mem_cons_self
        split
        · rename_i hb
          simp only [Bool.and_eq_true, isSmall, decide_eq_true_iff] at hb
          refine ⟨?_, by omega⟩
          unfold nameRune isLetter isDigit
          simp only [Bool.or_eq_true, decide_eq_true_iff]
          omega
        · exact ⟨hn, hx⟩
      · exact ht false hr
theorem name_all {l : List Int} (h : nameOf l = true) : ∀ r ∈ l, nameRune r = true := by
  unfold nameOf at h
  simp only [Bool.and_eq_true, List.all_eq_true] at h
  exact h.2
end Go.Proofs.YtkhnicppcbgdiaaGreatDoor
namespace Go.Proofs.YtkhnicppcbgdiaaGreatDoor
set_option linter.unusedVariables false

/-- the rune at the head, and its bytes; -1: it is none -/
def nx (l : List UInt8) : Int × Nat :=
  if l = [] then (-1, 0) else if (Lib.decodeL l).1 = 65533 ∧ (Lib.decodeL l).2 ≤ 1 then (-1, (Lib.decodeL l).2) else ((Lib.decodeL l).1, (Lib.decodeL l).2)
def mkB (l : List UInt8) : ByteArray := ⟨l.toArray⟩
theorem mkB_data (x : ByteArray) : mkB x.data.toList = x := rfl
theorem mkB_list (l : List UInt8) : (mkB l).toList = l := by rw [ByteArray.toList_eq]; rfl
/-- where a word should begin -/
def begins (l : List UInt8) : Prop := l ≠ [] ∧ (nx l).1 ≠ 10 ∧ (nx l).1 ≠ 32 ∧ (nx l).1 ≠ 9 ∧ ¬ ((nx l).1 = 47 ∧ l[1]? = some 47)
end Go.Proofs.YtkhnicppcbgdiaaGreatDoor
namespace Go.Proofs.YtkhnicppcbgdiaaGreatDoor
set_option linter.unusedVariables false

/-- whether the k-th byte goes on a rune -/
def contA (A : ByteArray) (k : Nat) : Bool := decide (0 + k < A.size) && ((A.get! (0 + k)).toNat / 64 == 2)
def dec4 (b0 b1 b2 b3 : Nat) (c1 c2 c3 : Bool) : Nat × Nat :=
  if b0 < 128 then (b0, 1)
  else if (b0 / 32 == 6 && c1) = true then (if b0 % 32 * 64 + b1 % 64 ≥ 128 then (b0 % 32 * 64 + b1 % 64, 2) else (65533, 1))
  else if (b0 / 16 == 14 && c1 && c2) = true then (if (decide (b0 % 16 * 4096 + b1 % 64 * 64 + b2 % 64 ≥ 2048) && Utf8.valid ((b0 % 16 * 4096 + b1 % 64 * 64 + b2 % 64 : Nat) : Int)) = true then (b0 % 16 * 4096 + b1 % 64 * 64 + b2 % 64, 3) else (65533, 1))
  else if (b0 / 8 == 30 && c1 && c2 && c3) = true then (if (decide (b0 % 8 * 262144 + b1 % 64 * 4096 + b2 % 64 * 64 + b3 % 64 ≥ 65536) && Utf8.valid ((b0 % 8 * 262144 + b1 % 64 * 4096 + b2 % 64 * 64 + b3 % 64 : Nat) : Int)) = true then (b0 % 8 * 262144 + b1 % 64 * 4096 + b2 % 64 * 64 + b3 % 64, 4) else (65533, 1))
  else (65533, 1)
theorem decode_dec4 (A : ByteArray) : Utf8.decode A 0 = dec4 (A.get! (0 + 0)).toNat (A.get! (0 + 1)).toNat (A.get! (0 + 2)).toNat (A.get! (0 + 3)).toNat (contA A 1) (contA A 2) (contA A 3) := rfl
end Go.Proofs.YtkhnicppcbgdiaaGreatDoor
namespace Go.Proofs.YtkhnicppcbgdiaaGreatDoor
set_option linter.unusedVariables false

/-! what is read as a small rune is its bytes -/
theorem get_cons (l : List UInt8) (k : Nat) (x : UInt8) (h : l[k]? = some x) : (ByteArray.mk l.toArray).get! (0 + k) = x := by
  rw [Nat.zero_add]
  show l.toArray[k]! = x
  rw [getElem!_def]
  simp [h]
theorem dec_enc (l : List UInt8) (h : l ≠ []) (hc : (Lib.decodeL l).1 ≤ 2047) : l = Lib.encodeRune ((Lib.decodeL l).1 : Int) ++ l.drop (Lib.decodeL l).2 := by
  cases l with
  | nil => exact absurd rfl h
  | cons b0 t =>
    have g0 := get_cons (b0 :: t) 0 b0 rfl
    have hb0 := b0.toNat_lt
    by_cases h128 : b0.toNat < 128
    · rw [Lib.decodeL_ascii b0 t h128, enc_small _ (by omega) (by omega)]
      simp
    · unfold Lib.decodeL at hc ⊢
      rw [decode_dec4, g0] at hc ⊢
      unfold dec4 at hc ⊢
      rw [if_neg h128] at hc ⊢
      by_cases c6 : (b0.toNat / 32 == 6 && contA ⟨(b0 :: t).toArray⟩ 1) = true
      · rw [if_pos c6] at hc ⊢
        simp only [Bool.and_eq_true, beq_iff_eq] at c6
        obtain ⟨c6a, c6b⟩ := c6
        unfold contA at c6b
        simp only [Bool.and_eq_true, decide_eq_true_iff, beq_iff_eq] at c6b
        obtain ⟨hsz, hb1⟩ := c6b
        have hsz' : 1 < (b0 :: t).length := by
          have : (ByteArray.mk (b0 :: t).toArray).size = (b0 :: t).length := by show (b0 :: t).toArray.size = _; simp
          omega
        cases t with
        | nil => simp at hsz'
        | cons b1 t =>
          have g1 := get_cons (b0 :: b1 :: t) 1 b1 rfl
          rw [g1] at hb1 hc ⊢
          have hb1' := b1.toNat_lt
          by_cases c128 : b0.toNat % 32 * 64 + b1.toNat % 64 ≥ 128
          · rw [if_pos c128]
            simp only
            rw [enc_two _ (by omega) (by omega)]
            have e0 : (192 + ((b0.toNat % 32 * 64 + b1.toNat % 64 : Nat) : Int) / 64).toNat = b0.toNat := by omega
            have e1 : (128 + ((b0.toNat % 32 * 64 + b1.toNat % 64 : Nat) : Int) % 64).toNat = b1.toNat := by omega
            rw [e0, e1]
            simp
          · rw [if_neg c128] at hc
            simp at hc
      · rw [if_neg c6] at hc
        exfalso
        revert hc
        repeat' split
        all_goals
          simp_all
        all_goals omega
theorem rns_bytes (s : ByteArray) (hL : s.data.toList.length = s.size) : ∀ (b pos : Nat), s.size ≤ pos + b → (∀ r ∈ rns s b pos, r ≤ 2047) → s.data.toList.drop pos = encL (rns s b pos)
  | 0, pos, hb, _ => by
    rw [List.drop_eq_nil_of_le (by omega)]; rfl
  | b + 1, pos, hb, h => by
    by_cases hp : pos < s.size
    · rw [rns_step s b pos hp] at h ⊢
      have hne : s.data.toList.drop pos ≠ [] := by
        intro e; have := congrArg List.length e; rw [List.length_drop, List.length_nil] at this; omega
      have hd := Lib.decodeL_drop s pos
      have h0 := h _ List.mem_cons_self
      have h1 := dec_enc _ hne (by rw [hd]; omega)
      rw [hd, List.drop_drop] at h1
      rw [encL_cons, ← rns_bytes s hL b (pos + (Utf8.decode s pos).2) (by have := width_pos s pos hp; omega) (fun r hr => h r (List.mem_cons_of_mem _ hr))]
      exact h1
    · rw [rns_end s _ pos hp, List.drop_eq_nil_of_le (by omega)]; rfl
/-! read again -/
end Go.Proofs.YtkhnicppcbgdiaaGreatDoor
