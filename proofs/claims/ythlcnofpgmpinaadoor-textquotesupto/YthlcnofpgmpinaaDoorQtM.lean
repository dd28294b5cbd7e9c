/-
  The quoting of texts, as plain functions: byte by byte, and rune by rune; where the text is valid both are one. Nothing is proved of the program here.
-/
import Derived.Test.YthlcnofpgmpinaaDoorEnc
import Derived.Lib.MapLaws
import Derived.Lib.ValidLaws
import Derived.Lib.TrimUEq
namespace Go.Proofs.YthlcnofpgmpinaaDoor
set_option linter.unusedVariables false

/-- a hexadecimal digit -/
def hexD (n : Nat) : UInt8 := if n < 10 then UInt8.ofNat (48 + n) else UInt8.ofNat (87 + n)
/-- a byte, quoted -/
def qb (c : UInt8) : List UInt8 :=
  if c.toNat = 34 ∨ c.toNat = 92 then [92, c] else if c.toNat = 10 then [92, 110] else if c.toNat < 32 ∨ c.toNat = 127 then [92, 117, 48, 48, hexD (c.toNat / 16), hexD (c.toNat % 16)] else [c]
/-- a rune, quoted -/
def qr (r : Int) : List UInt8 :=
  if r = 34 ∨ r = 92 then 92 :: Lib.encodeRune r else if r = 10 then [92, 110] else if r < 32 ∨ r = 127 then [92, 117, 48, 48, hexD (r.toNat / 16), hexD (r.toNat % 16)] else Lib.encodeRune r
/-- a text, quoted -/
def quoteL (l : List UInt8) : List UInt8 := 34 :: (l.flatMap qb ++ [34])

theorem qb_len (c : UInt8) : 1 ≤ (qb c).length ∧ (qb c).length ≤ 6 := by
  unfold qb; split <;> (try split) <;> (try split) <;> simp
theorem qr_small : ∀ i : Fin 128, qr (i.val : Int) = (Lib.encodeRune (i.val : Int)).flatMap qb := by decide
theorem encZ_big (r : Int) (h : 128 ≤ r) : ∀ x ∈ Lib.encodeRuneZ r, 128 ≤ x ∧ x < 256 := by
  intro x hx
  have h2 := (Lib.encodeRuneZ_byte r x hx).2
  refine ⟨?_, h2⟩
  by_cases h1 : r ≤ 2047
  · rw [Lib.encodeRuneZ_two h h1] at hx
    simp only [List.mem_cons, List.not_mem_nil, or_false] at hx; omega
  · by_cases hb : (55296 ≤ r ∧ r ≤ 57343) ∨ 1114111 < r
    · rw [Lib.encodeRuneZ_bad (by omega)] at hx
      simp only [List.mem_cons, List.not_mem_nil, or_false] at hx; omega
    · by_cases h3 : r ≤ 65535
      · rw [Lib.encodeRuneZ_three (by omega)] at hx
        simp only [List.mem_cons, List.not_mem_nil, or_false] at hx; omega
      · rw [Lib.encodeRuneZ_four (by omega) (by omega)] at hx
        simp only [List.mem_cons, List.not_mem_nil, or_false] at hx; omega
theorem enc_big (r : Int) (h : 128 ≤ r) : ∀ b ∈ Lib.encodeRune r, 128 ≤ b.toNat := by
  intro b hb
  unfold Lib.encodeRune at hb
  obtain ⟨x, hx, rfl⟩ := List.mem_map.1 hb
  have := encZ_big r h x hx
  simp; omega
theorem qb_big (b : UInt8) (h : 128 ≤ b.toNat) : qb b = [b] := by
  unfold qb
  rw [if_neg (by omega), if_neg (by omega), if_neg (by omega)]
theorem flat_big : ∀ l : List UInt8, (∀ b ∈ l, 128 ≤ b.toNat) → l.flatMap qb = l
  | [], _ => rfl
  | b :: t, h => by
    rw [List.flatMap_cons, qb_big b (h b List.mem_cons_self), flat_big t (fun x hx => h x (List.mem_cons_of_mem _ hx))]; rfl
theorem qr_enc (n : Nat) : qr (n : Int) = (Lib.encodeRune (n : Int)).flatMap qb := by
  by_cases h : n < 128
  · exact qr_small ⟨n, h⟩
  · rw [flat_big _ (enc_big n (by omega))]
    unfold qr
    rw [if_neg (by omega), if_neg (by omega), if_neg (by omega)]
theorem quote_from (s : ByteArray) : ∀ (b pos : Nat), s.size ≤ pos + b → Lib.validD (s.data.toList.drop pos) = true → (rns s b pos).flatMap qr = (s.data.toList.drop pos).flatMap qb
  | b, pos, hb, h => by
    by_cases hp : pos < s.size
    · cases b with
      | zero => omega
      | succ b =>
        have hne : s.data.toList.drop pos ≠ [] := by
          intro e
          have := congrArg List.length e
          rw [List.length_drop, List.length_nil] at this
          have := len_data s
          omega
        have hw := width_pos s pos hp
        rw [Lib.validD_step _ hne] at h
        by_cases hv : (Lib.decodeL (s.data.toList.drop pos)).1 = 65533 ∧ (Lib.decodeL (s.data.toList.drop pos)).2 = 1
        · rw [if_pos hv] at h; exact absurd h (by decide)
        · rw [if_neg hv] at h
          have he := Lib.encode_decode _ hne hv
          rw [Lib.decodeL_drop] at h he
          rw [List.drop_drop] at h
          have ih := quote_from s b (pos + (Utf8.decode s pos).2) (by omega) h
          rw [rns_step s b pos hp, List.flatMap_cons, ih, qr_enc, he, ← List.drop_drop, ← List.flatMap_append, List.take_append_drop]
    · have e : s.data.toList.drop pos = [] := List.drop_eq_nil_of_le (by rw [len_data]; omega)
      rw [e, rns_end s b pos hp]; rfl
/-- where the text is valid, its runes quoted are its bytes quoted -/
theorem quote_runes (s : ByteArray) (h : Lib.validD s.data.toList = true) : (runes s).flatMap qr = s.data.toList.flatMap qb := by
  have := quote_from s s.size 0 (by omega) (by simpa using h)
  unfold runes
  simpa using this
end Go.Proofs.YthlcnofpgmpinaaDoor
