/-
  The other forms of a name, as lists of runes, and their bytes: plain words and facts of this seat. Nothing is proved of the program here.
-/
import Derived.Test.YthlcnofpgmpinaaDoorRn
import Derived.Lib.RuneBytes
import Derived.Lib.RuneCount
namespace Go.Proofs.YthlcnofpgmpinaaDoor
set_option linter.unusedVariables false

def isSmall (r : Int) : Bool := decide (97 ≤ r ∧ r ≤ 122)
def isGreat (r : Int) : Bool := decide (65 ≤ r ∧ r ≤ 90)
/-- without the _, each part begun with a great letter; b: a part begins here -/
def camelL : Bool → List Int → List Int
  | _, [] => []
  | b, r :: t => if r = 95 then camelL true t else (if (b && isSmall r) = true then r - 32 else r) :: camelL false t
/-- great letters small, a _ ahead of each but the first rune -/
def snakeL : Bool → List Int → List Int
  | _, [] => []
  | f, r :: t => if isGreat r = true then (if f = true then (r + 32) :: snakeL false t else 95 :: (r + 32) :: snakeL false t) else r :: snakeL false t
/-- the bytes of runes -/
def encL (l : List Int) : List UInt8 := l.flatMap Lib.encodeRune
theorem encL_nil : encL [] = [] := rfl
theorem encL_cons (r : Int) (t : List Int) : encL (r :: t) = Lib.encodeRune r ++ encL t := by simp [encL]
theorem encL_append (a b : List Int) : encL (a ++ b) = encL a ++ encL b := by simp [encL]
theorem enc_len (r : Int) : 1 ≤ (Lib.encodeRune r).length ∧ (Lib.encodeRune r).length ≤ 4 := by
  have := Lib.runeCells_le r; rw [Lib.runeCells_length] at this; exact this
theorem encL_len : ∀ l : List Int, l.length ≤ (encL l).length ∧ (encL l).length ≤ 4 * l.length
  | [] => by simp [encL]
  | r :: t => by have := encL_len t; have := enc_len r; rw [encL_cons]; simp; omega
theorem enc_small (r : Int) (h : 0 ≤ r) (h1 : r ≤ 127) : Lib.encodeRune r = [UInt8.ofNat r.toNat] := by
  unfold Lib.encodeRune; rw [Lib.encodeRuneZ_one h h1]; rfl
theorem enc_two (r : Int) (h : 128 ≤ r) (h1 : r ≤ 2047) : Lib.encodeRune r = [UInt8.ofNat (192 + r / 64).toNat, UInt8.ofNat (128 + r % 64).toNat] := by
  unfold Lib.encodeRune; rw [Lib.encodeRuneZ_two h h1]; rfl

theorem get_pre (p t : List UInt8) (k : Nat) (x : UInt8) (h : t[k]? = some x) : (ByteArray.mk (p ++ t).toArray).get! (p.length + k) = x := by
  have h2 : (p ++ t)[p.length + k]? = some x := by rw [List.getElem?_append_right (by omega)]; simpa using h
  show (p ++ t).toArray[p.length + k]! = x
  rw [getElem!_def]
  simp [h2]
theorem size_pre (p t : List UInt8) : (ByteArray.mk (p ++ t).toArray).size = p.length + t.length := by
  show (p ++ t).toArray.size = _
  simp
theorem decode_enc1 (p t : List UInt8) (r : Int) (h : 0 ≤ r) (h1 : r ≤ 127) :
    Utf8.decode ⟨(p ++ (Lib.encodeRune r ++ t)).toArray⟩ p.length = (r.toNat, 1) := by
  rw [enc_small r h h1]
  have g0 := get_pre p ([UInt8.ofNat r.toNat] ++ t) 0 (UInt8.ofNat r.toNat) rfl
  have e0 : (UInt8.ofNat r.toNat).toNat = r.toNat := by simp; omega
  unfold Utf8.decode
  simp only [g0, e0]
  rw [if_pos (by omega)]
theorem decode_enc2 (p t : List UInt8) (r : Int) (h : 128 ≤ r) (h1 : r ≤ 2047) :
    Utf8.decode ⟨(p ++ (Lib.encodeRune r ++ t)).toArray⟩ p.length = (r.toNat, 2) := by
  rw [enc_two r h h1]
  have g0 := get_pre p ([UInt8.ofNat (192 + r / 64).toNat, UInt8.ofNat (128 + r % 64).toNat] ++ t) 0 _ rfl
  have g1 := get_pre p ([UInt8.ofNat (192 + r / 64).toNat, UInt8.ofNat (128 + r % 64).toNat] ++ t) 1 _ rfl
  have hz := size_pre p ([UInt8.ofNat (192 + r / 64).toNat, UInt8.ofNat (128 + r % 64).toNat] ++ t)
  have e0 : (UInt8.ofNat (192 + r / 64).toNat).toNat = (192 + r / 64).toNat := by simp; omega
  have e1 : (UInt8.ofNat (128 + r % 64).toNat).toNat = (128 + r % 64).toNat := by simp; omega
  unfold Utf8.decode
  simp only [g0, g1, e0, e1, hz]
  have a1 : ¬ (192 + r / 64).toNat < 128 := by omega
  have a2 : ((192 + r / 64).toNat / 32 == 6) = true := by simp; omega
  have a3 : (decide (p.length + 1 < p.length + ([UInt8.ofNat (192 + r / 64).toNat, UInt8.ofNat (128 + r % 64).toNat] ++ t).length) && (128 + r % 64).toNat / 64 == 2) = true := by simp; omega
  rw [if_neg a1, a2, a3]
  simp only [Bool.and_true, if_true]
  rw [if_pos (by omega)]
  congr 1
  omega
/-- a rune of one or two bytes -/
def two (r : Int) : Prop := 0 ≤ r ∧ r ≤ 2047
theorem decode_enc (p t : List UInt8) (r : Int) (h : two r) :
    Utf8.decode ⟨(p ++ (Lib.encodeRune r ++ t)).toArray⟩ p.length = (r.toNat, (Lib.encodeRune r).length) := by
  obtain ⟨h0, h1⟩ := h
  by_cases hr : r ≤ 127
  · rw [decode_enc1 p t r h0 hr, enc_small r h0 hr]; rfl
  · rw [decode_enc2 p t r (by omega) h1, enc_two r (by omega) h1]; rfl
theorem rns_enc : ∀ (l : List Int) (p : List UInt8) (b : Nat), (∀ r ∈ l, two r) → (encL l).length ≤ b → rns ⟨(p ++ encL l).toArray⟩ b p.length = l
  | [], p, b, _, _ => by
    refine rns_end _ _ _ ?_
    rw [size_pre]; simp [encL]
  | r :: t, p, b, h, hb => by
    have hr := h r List.mem_cons_self
    have hl := enc_len r
    have hsz := size_pre p (encL (r :: t))
    rw [encL_cons] at hb hsz ⊢
    rw [List.length_append] at hb hsz
    obtain ⟨b, rfl⟩ : ∃ b', b = b' + 1 := ⟨b - 1, by omega⟩
    rw [rns_step _ _ _ (by rw [hsz]; omega), decode_enc p (encL t) r hr]
    have e : (p ++ (Lib.encodeRune r ++ encL t)) = (p ++ Lib.encodeRune r) ++ encL t := by simp
    have ih := rns_enc t (p ++ Lib.encodeRune r) b (fun x hx => h x (List.mem_cons_of_mem _ hx)) (by omega)
    rw [← e, List.length_append] at ih
    rw [ih]
    congr 1
    have := hr.1
    show ((r.toNat : Nat) : Int) = r
    omega
/-- the runes of the bytes of runes -/
theorem runes_enc (l : List Int) (h : ∀ r ∈ l, two r) : runes ⟨(encL l).toArray⟩ = l := by
  have := rns_enc l [] (encL l).length h (Nat.le_refl _)
  simpa [runes, ByteArray.size] using this
theorem runeCount_rns (s : ByteArray) : ∀ b i, Lib.runeCountFrom s b i = (rns s b i).length
  | 0, i => rfl
  | b + 1, i => by
    rw [Lib.runeCountFrom, rns]
    split
    · rw [runeCount_rns s b, List.length_cons]; omega
    · rfl
theorem runeCount_runes (s : ByteArray) : Lib.runeCount s = (runes s).length := runeCount_rns s _ _

/-! the runes of a name are of one or two bytes, and its other forms' -/
theorem two_of_name {r : Int} (h : nameRune r = true) : two r := by
  unfold nameRune isLetter isDigit at h
  simp only [Bool.or_eq_true, decide_eq_true_iff] at h
  unfold two; omega
theorem camel_name : ∀ (l : List Int) (b : Bool), (∀ r ∈ l, nameRune r = true) → ∀ r ∈ camelL b l, nameRune r = true ∧ r ≠ 95
  | [], b, _, r, hr => by simp [camelL] at hr
  | x :: t, b, h, r, hr => by
    rw [camelL] at hr
    have ht := fun b' => camel_name t b' (fun y hy => h y (List.mem_cons_of_mem _ hy)) r
    split at hr
    · exact ht true hr
    · rename_i hx
      rcases List.mem_cons.1 hr with rfl | hr
      · have hn := h x List.mem_cons_self
        split
        · rename_i hb
          simp only [Bool.and_eq_true, isSmall, decide_eq_true_iff] at hb
          refine ⟨?_, by omega⟩
          unfold nameRune isLetter isDigit
          simp only [Bool.or_eq_true, decide_eq_true_iff]
          omega
        · exact ⟨hn, hx⟩
      · exact ht false hr
theorem snake_name : ∀ (l : List Int) (f : Bool), (∀ r ∈ l, nameRune r = true) → ∀ r ∈ snakeL f l, nameRune r = true
  | [], f, _, r, hr => by simp [snakeL] at hr
  | x :: t, f, h, r, hr => by
    rw [snakeL] at hr
    have ht := snake_name t false (fun y hy => h y (List.mem_cons_of_mem _ hy)) r
    have hn := h x List.mem_cons_self
    have h95 : nameRune 95 = true := by decide
    split at hr
    · rename_i hg
      have hs : nameRune (x + 32) = true := by
        simp only [isGreat, decide_eq_true_iff] at hg
        unfold nameRune isLetter isDigit
        simp only [Bool.or_eq_true, decide_eq_true_iff]
        omega
      split at hr
      · rcases List.mem_cons.1 hr with rfl | hr
        · exact hs
        · exact ht hr
      · rcases List.mem_cons.1 hr with rfl | hr
        · exact h95
        · rcases List.mem_cons.1 hr with rfl | hr
          · exact hs
          · exact ht hr
    · rcases List.mem_cons.1 hr with rfl | hr
      · exact hn
      · exact ht hr
theorem name_all {l : List Int} (h : nameOf l = true) : ∀ r ∈ l, nameRune r = true := by
  unfold nameOf at h
  simp only [Bool.and_eq_true, List.all_eq_true] at h
  exact h.2
theorem camel_len : ∀ (l : List Int) (b : Bool), (camelL b l).length ≤ l.length
  | [], b => by simp [camelL]
  | x :: t, b => by
    have := camel_len t true; have := camel_len t false
    rw [camelL]; split <;> simp <;> omega
theorem snake_len : ∀ (l : List Int) (f : Bool), (snakeL f l).length ≤ 2 * l.length
  | [], f => by simp [snakeL]
  | x :: t, f => by
    have := snake_len t false
    rw [snakeL]; split
    · split <;> simp <;> omega
    · simp; omega
end Go.Proofs.YthlcnofpgmpinaaDoor
