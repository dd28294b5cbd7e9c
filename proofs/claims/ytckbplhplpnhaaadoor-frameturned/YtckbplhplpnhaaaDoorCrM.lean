/-
  Sums of bytes (CRC-32), as plain functions over natural numbers. Nothing is proved of the program here.
-/
import Derived.Test.YtckbplhplpnhaaaDoorProg
namespace Go.Proofs.YtckbplhplpnhaaaDoor
set_option linter.unusedVariables false

/-- one bit -/
def st1 (x : Nat) : Nat := (x / 2) ^^^ (if x % 2 = 1 then 3988292384 else 0)
def stN : Nat → Nat → Nat
  | 0, x => x
  | k + 1, x => stN k (st1 x)
/-- one byte -/
def up (s b : Nat) : Nat := stN 8 (s ^^^ b)
/-- bytes, one behind the other -/
def raw (s : Nat) (bs : List Nat) : Nat := bs.foldl up s
def not32 (x : Nat) : Nat := x ^^^ 4294967295
def updC (sum : Nat) (bs : List Nat) : Nat := not32 (raw (not32 sum) bs)
def sumC (bs : List Nat) : Nat := updC 0 bs
/-- n bytes of no bits -/
def zer (n : Nat) : List Nat := List.replicate n 0
def joinC (first second n : Nat) : Nat := raw first (zer n) ^^^ second

theorem xor_lt32 {a b : Nat} (ha : a < 4294967296) (hb : b < 4294967296) : a ^^^ b < 4294967296 := Nat.xor_lt_two_pow (n := 32) ha hb
theorem st1_lt {x : Nat} (h : x < 4294967296) : st1 x < 4294967296 := by
  unfold st1
  exact xor_lt32 (by omega) (by split <;> omega)
theorem xor_mod2 (a b : Nat) : (a ^^^ b) % 2 = (a % 2 + b % 2) % 2 := by
  have h := Nat.testBit_xor a b 0
  simp only [Nat.testBit_zero] at h
  have hr : (a ^^^ b) % 2 < 2 := Nat.mod_lt _ (by omega)
  generalize (a ^^^ b) % 2 = r at h hr ⊢
  rcases (by omega : r = 0 ∨ r = 1) with rfl | rfl <;> rcases (by omega : a % 2 = 0 ∨ a % 2 = 1) with ha | ha <;> rcases (by omega : b % 2 = 0 ∨ b % 2 = 1) with hb | hb <;> simp [ha, hb] at h ⊢
theorem xor_div2 (a b : Nat) : (a ^^^ b) / 2 = (a / 2) ^^^ (b / 2) := by
  have := Nat.shiftRight_xor_distrib (a := a) (b := b) (i := 1)
  simpa [Nat.shiftRight_eq_div_pow] using this
theorem st1_xor (x y : Nat) : st1 (x ^^^ y) = st1 x ^^^ st1 y := by
  unfold st1
  rw [xor_div2, xor_mod2]
  rcases (by omega : x % 2 = 0 ∨ x % 2 = 1) with hx | hx <;> rcases (by omega : y % 2 = 0 ∨ y % 2 = 1) with hy | hy <;> simp only [hx, hy]
  · simp
  · simp [Nat.xor_assoc]
  · simp only [if_true, Nat.reduceEqDiff, if_false, Nat.xor_zero]
    rw [Nat.xor_assoc, Nat.xor_comm (y / 2), ← Nat.xor_assoc]
  · simp only [Nat.reduceAdd, Nat.reduceMod, if_true, Nat.reduceEqDiff, if_false, Nat.xor_zero]
    rw [Nat.xor_assoc (x / 2), ← Nat.xor_assoc 3988292384, Nat.xor_comm 3988292384, Nat.xor_assoc (y / 2), Nat.xor_self, Nat.xor_zero]
theorem stN_xor : ∀ (k x y : Nat), stN k (x ^^^ y) = stN k x ^^^ stN k y
  | 0, x, y => rfl
  | k + 1, x, y => by unfold stN; rw [st1_xor, stN_xor k]
theorem stN_lt : ∀ (k : Nat) {x : Nat}, x < 4294967296 → stN k x < 4294967296
  | 0, x, h => h
  | k + 1, x, h => by unfold stN; exact stN_lt k (st1_lt h)
theorem st1_top {x : Nat} (h : x < 4294967296) : (st1 x).testBit 31 = decide (x % 2 = 1) := by
  unfold st1
  rw [Nat.testBit_xor]
  have h1 : (x / 2).testBit 31 = false := Nat.testBit_lt_two_pow (by omega)
  rw [h1]
  rcases (by omega : x % 2 = 0 ∨ x % 2 = 1) with hx | hx <;> simp [hx]
  decide
theorem st1_inj {x y : Nat} (hx : x < 4294967296) (hy : y < 4294967296) (h : st1 x = st1 y) : x = y := by
  have h1 := st1_top hx
  have h2 := st1_top hy
  rw [h, h2] at h1
  have hm : x % 2 = y % 2 := by
    rcases (by omega : x % 2 = 0 ∨ x % 2 = 1) with a | a <;> rcases (by omega : y % 2 = 0 ∨ y % 2 = 1) with b | b <;> simp [a, b] at h1 ⊢
  unfold st1 at h
  rw [hm] at h
  have hd : x / 2 = y / 2 := by
    have := congrArg (fun z => z ^^^ (if y % 2 = 1 then 3988292384 else 0)) h
    simpa [Nat.xor_assoc] using this
  omega
theorem stN_inj : ∀ (k : Nat) {x y : Nat}, x < 4294967296 → y < 4294967296 → stN k x = stN k y → x = y
  | 0, x, y, hx, hy, h => h
  | k + 1, x, y, hx, hy, h => st1_inj hx hy (stN_inj k (st1_lt hx) (st1_lt hy) h)
theorem up_lt {s b : Nat} (hs : s < 4294967296) (hb : b < 256) : up s b < 4294967296 := stN_lt 8 (xor_lt32 hs (by omega))
theorem raw_lt : ∀ {bs : List Nat} {s : Nat}, s < 4294967296 → (∀ b ∈ bs, b < 256) → raw s bs < 4294967296
  | [], s, hs, _ => hs
  | b :: t, s, hs, h => by
    show raw (up s b) t < _
    exact raw_lt (up_lt hs (h b List.mem_cons_self)) fun x hx => h x (List.mem_cons_of_mem _ hx)
theorem xor_inj_left {a b c : Nat} (h : a ^^^ c = b ^^^ c) : a = b := by
  have := congrArg (fun z => z ^^^ c) h
  simpa [Nat.xor_assoc] using this
theorem up_inj {s t b : Nat} (hs : s < 4294967296) (ht : t < 4294967296) (hb : b < 256) (h : up s b = up t b) : s = t :=
  xor_inj_left (stN_inj 8 (xor_lt32 hs (by omega)) (xor_lt32 ht (by omega)) h)
theorem up_byte {s b c : Nat} (hs : s < 4294967296) (hb : b < 256) (hc : c < 256) (h : up s b = up s c) : b = c := by
  have := stN_inj 8 (xor_lt32 hs (by omega)) (xor_lt32 hs (by omega)) h
  rw [Nat.xor_comm s, Nat.xor_comm s] at this
  exact xor_inj_left this
theorem raw_inj : ∀ {bs : List Nat} {s t : Nat}, s < 4294967296 → t < 4294967296 → (∀ b ∈ bs, b < 256) → raw s bs = raw t bs → s = t
  | [], s, t, hs, ht, _, h => h
  | b :: r, s, t, hs, ht, hb, h => by
    have h0 := hb b List.mem_cons_self
    have h1 : up s b = up t b := raw_inj (up_lt hs h0) (up_lt ht h0) (fun x hx => hb x (List.mem_cons_of_mem _ hx)) h
    exact up_inj hs ht h0 h1
theorem raw_append (s : Nat) (a b : List Nat) : raw s (a ++ b) = raw (raw s a) b := by unfold raw; rw [List.foldl_append]
theorem not_lt {x : Nat} (h : x < 4294967296) : not32 x < 4294967296 := xor_lt32 h (by omega)
theorem not_not (x : Nat) : not32 (not32 x) = x := by unfold not32; rw [Nat.xor_assoc, Nat.xor_self, Nat.xor_zero]
/-- the sum of bytes and more bytes -/
theorem upd_append (s : Nat) (a b : List Nat) : updC (updC s a) b = updC s (a ++ b) := by
  unfold updC
  rw [not_not, raw_append]
theorem upd_nil (s : Nat) : updC s [] = s := by unfold updC raw; rw [List.foldl_nil, not_not]
/-- one byte turned makes another sum -/
theorem sum_turned {a r : List Nat} {x y : Nat} (ha : ∀ b ∈ a, b < 256) (hr : ∀ b ∈ r, b < 256) (hx : x < 256) (hy : y < 256) (hne : x ≠ y) : sumC (a ++ x :: r) ≠ sumC (a ++ y :: r) := by
  intro h
  unfold sumC updC at h
  have h1 := xor_inj_left (show raw (not32 0) (a ++ x :: r) ^^^ 4294967295 = raw (not32 0) (a ++ y :: r) ^^^ 4294967295 from h)
  rw [raw_append, raw_append] at h1
  have hs : raw (not32 0) a < 4294967296 := raw_lt (not_lt (by omega)) ha
  have h2 : up (raw (not32 0) a) x = up (raw (not32 0) a) y := raw_inj (up_lt hs hx) (up_lt hs hy) hr h1
  exact hne (up_byte hs hx hy h2)
/-- bytes change the sum as if it had been none, beside what the elder sum becomes -/
theorem raw_xor : ∀ (bs : List Nat) (s t : Nat), raw (s ^^^ t) bs = raw s (zer bs.length) ^^^ raw t bs
  | [], s, t => rfl
  | b :: r, s, t => by
    have e : up (s ^^^ t) b = up s 0 ^^^ up t b := by
      unfold up
      rw [Nat.xor_assoc, stN_xor, Nat.xor_zero]
    show raw (up (s ^^^ t) b) r = raw (up s 0) (zer r.length) ^^^ raw (up t b) r
    rw [e]
    exact raw_xor r _ _
theorem join_sum (a c : List Nat) : joinC (sumC a) (sumC c) c.length = sumC (a ++ c) := by
  unfold joinC sumC updC
  rw [raw_append]
  have h := raw_xor c (raw (not32 0) a ^^^ not32 0) (not32 0)
  rw [Nat.xor_assoc, Nat.xor_self, Nat.xor_zero] at h
  rw [h]
  have e : raw (not32 0) a ^^^ not32 0 = not32 (raw (not32 0) a) := by unfold not32; simp
  rw [e]
  unfold not32
  rw [Nat.xor_assoc]
theorem stN_add : ∀ (k m x : Nat), stN (k + m) x = stN m (stN k x)
  | 0, m, x => by rw [Nat.zero_add]; rfl
  | k + 1, m, x => by
    rw [Nat.add_right_comm]
    show stN (k + m) (st1 x) = stN m (stN k (st1 x))
    exact stN_add k m (st1 x)
theorem stN_snoc (k x : Nat) : stN (k + 1) x = st1 (stN k x) := stN_add k 1 x
/-- noughts, bit by bit -/
theorem raw_zer : ∀ (n s : Nat), raw s (zer n) = stN (8 * n) s
  | 0, s => rfl
  | n + 1, s => by
    have e : 8 * (n + 1) = 8 + 8 * n := by omega
    rw [e, stN_add, ← raw_zer n]
    show raw (up s 0) (zer n) = _
    unfold up
    rw [Nat.xor_zero]
theorem raw_snoc (s : Nat) (a : List Nat) (b : Nat) : raw s (a ++ [b]) = up (raw s a) b := by rw [raw_append]; rfl
/-- the highest bit: x to the 0 -/
def topC : Nat := 2147483648
theorem stN_zero : ∀ k, stN k 0 = 0
  | 0 => rfl
  | k + 1 => by show stN k (st1 0) = 0; rw [show st1 0 = 0 by decide]; exact stN_zero k
theorem st1_even {x : Nat} (h : x % 2 = 0) : st1 x = x / 2 := by unfold st1; rw [if_neg (by omega), Nat.xor_zero]
theorem xor_split16 (x : Nat) : x = (x / 16 * 16) ^^^ (x % 16) := by
  have h := Nat.two_pow_add_eq_or_of_lt (i := 4) (b := x % 16) (Nat.mod_lt _ (by decide)) (x / 16)
  have h2 : 2 ^ 4 * (x / 16) ^^^ x % 16 = 2 ^ 4 * (x / 16) ||| x % 16 := by
    apply Nat.eq_of_testBit_eq
    intro i
    rw [Nat.testBit_xor, Nat.testBit_or]
    by_cases hi : i < 4
    · rw [Nat.testBit_two_pow_mul]; simp [show ¬ 4 ≤ i by omega]
    · rw [show (x % 16).testBit i = false from Nat.testBit_lt_two_pow (Nat.lt_of_lt_of_le (Nat.mod_lt x (by decide : 16 > 0)) (by
        have : 2 ^ 4 ≤ 2 ^ i := Nat.pow_le_pow_right (by decide) (by omega)
        simpa using this))]
      simp
  have e : x / 16 * 16 = 2 ^ 4 * (x / 16) := by omega
  rw [e, h2, ← h]; omega
theorem stN_sixteen (y : Nat) : stN 4 (y * 16) = y := by
  show st1 (st1 (st1 (st1 (y * 16)))) = y
  rw [st1_even (x := y * 16) (by omega), st1_even (x := y * 16 / 2) (by omega), st1_even (x := y * 16 / 2 / 2) (by omega), st1_even (x := y * 16 / 2 / 2 / 2) (by omega)]
  omega
def tabC : List Nat := [0x00000000, 0x1db71064, 0x3b6e20c8, 0x26d930ac, 0x76dc4190, 0x6b6b51f4, 0x4db26158, 0x5005713c, 0xedb88320, 0xf00f9344, 0xd6d6a3e8, 0xcb61b38c, 0x9b64c2b0, 0x86d3d2d4, 0xa00ae278, 0xbdbdf21c]
theorem tab_four : ∀ i : Fin 16, tabC.getD i.val 0 = stN 4 i.val := by decide +kernel
/-- four bits at once -/
theorem four_at (x : Nat) : (x / 16) ^^^ tabC.getD (x % 16) 0 = stN 4 x := by
  rw [tab_four ⟨x % 16, Nat.mod_lt _ (by decide)⟩]
  conv => rhs; rw [xor_split16 x, stN_xor, stN_sixteen]
theorem tabC_lt (i : Nat) : tabC.getD i 0 < 4294967296 := by
  by_cases h : i < 16
  · exact (by decide +kernel : ∀ i : Fin 16, tabC.getD i.val 0 < 4294967296) ⟨i, h⟩
  · rw [List.getD_eq_getElem?_getD, List.getElem?_eq_none (by show 16 ≤ i; omega)]; decide
theorem up_eight (s b : Nat) : up s b = stN 4 (stN 4 (s ^^^ b)) := stN_add 4 4 _
/-- the product of two polynomials, in so many steps -/
def prodF : Nat → Nat → Nat → Nat → Nat
  | 0, a, b, s => s
  | f + 1, a, b, s => if a = 0 then s else prodF f (a * 2 % 4294967296) (st1 b) (if a / 2147483648 = 1 then s ^^^ b else s)
theorem xor_top {a : Nat} (h : a / 2147483648 = 1) (h2 : a < 4294967296) : a = topC ^^^ (a % 2147483648) := by
  have h0 := Nat.two_pow_add_eq_or_of_lt (i := 31) (b := a % 2147483648) (Nat.mod_lt _ (by decide)) 1
  have h3 : 2 ^ 31 * 1 ^^^ a % 2147483648 = 2 ^ 31 * 1 ||| a % 2147483648 := by
    apply Nat.eq_of_testBit_eq
    intro i
    rw [Nat.testBit_xor, Nat.testBit_or]
    by_cases hi : i < 31
    · rw [Nat.testBit_two_pow_mul]; simp [show ¬ 31 ≤ i by omega]
    · rw [show (a % 2147483648).testBit i = false from Nat.testBit_lt_two_pow (Nat.lt_of_lt_of_le (Nat.mod_lt a (by decide : 2147483648 > 0)) (by
        have : 2 ^ 31 ≤ 2 ^ i := Nat.pow_le_pow_right (by decide) (by omega)
        simpa using this))]
      simp
  have e : topC = 2 ^ 31 * 1 := by decide
  rw [e, h3, ← h0]; omega
theorem prod_eq : ∀ (f k a s : Nat), f ≤ 32 → a < 4294967296 → a % 2 ^ (32 - f) = 0 → prodF f a (stN k topC) s = s ^^^ stN k a
  | 0, k, a, s, _, h, hm => by
    have : a = 0 := by rw [show 32 - 0 = 32 by omega] at hm; omega
    subst this
    show s = _
    rw [stN_zero, Nat.xor_zero]
  | f + 1, k, a, s, hf, h, hm => by
    unfold prodF
    by_cases h0 : a = 0
    · rw [if_pos h0, h0, stN_zero, Nat.xor_zero]
    · rw [if_neg h0]
      have hp : 2 ^ (32 - f) = 2 ^ (32 - (f + 1)) * 2 := by rw [← Nat.pow_succ]; congr 1; omega
      have hd : 2 ^ (32 - f) ∣ 4294967296 := by
        rw [show (4294967296 : Nat) = 2 ^ 32 by decide]; exact Nat.pow_dvd_pow 2 (by omega)
      have hm2 : a * 2 % 4294967296 % 2 ^ (32 - f) = 0 := by
        rw [Nat.mod_mod_of_dvd _ hd, hp, Nat.mul_mod_mul_right, hm, Nat.zero_mul]
      rw [← stN_snoc, prod_eq f (k + 1) _ _ (by omega) (Nat.mod_lt _ (by decide)) hm2]
      have e : stN (k + 1) (a * 2 % 4294967296) = stN k (a % 2147483648) := by
        rw [show a * 2 % 4294967296 = a % 2147483648 * 2 by omega]
        show stN k (st1 (a % 2147483648 * 2)) = _
        rw [st1_even (by omega)]
        congr 1; omega
      rw [e]
      by_cases h1 : a / 2147483648 = 1
      · rw [if_pos h1]
        conv => rhs; rw [xor_top h1 h, stN_xor]
        rw [Nat.xor_assoc]
      · rw [if_neg h1, Nat.mod_eq_of_lt (by omega)]
theorem prod_any (k a : Nat) (h : a < 4294967296) : prodF 32 a (stN k topC) 0 = stN k a := by
  rw [prod_eq 32 k a 0 (by omega) h (by omega), Nat.zero_xor]
/-- m steps, n times, by squaring -/
def movF : Nat → Nat → Nat → Nat → Nat
  | 0, n, m, s => s
  | f + 1, n, m, s => if n = 0 then s else movF f (n / 2) (m * 2) (if n % 2 = 1 then stN m s else s)
theorem mov_eq : ∀ (f n m s : Nat), n < 2 ^ f → movF f n m s = stN (m * n) s
  | 0, n, m, s, h => by
    have : n = 0 := by omega
    subst this; rfl
  | f + 1, n, m, s, h => by
    unfold movF
    by_cases h0 : n = 0
    · subst h0; rfl
    · rw [if_neg h0, mov_eq f _ _ _ (by rw [Nat.pow_succ] at h; omega)]
      have e : m * n = m * (n % 2) + m * 2 * (n / 2) := by
        conv => lhs; rw [show n = n % 2 + 2 * (n / 2) by omega, Nat.mul_add]
        rw [← Nat.mul_assoc]
      rw [e, stN_add]
      rcases (by omega : n % 2 = 0 ∨ n % 2 = 1) with hx | hx <;> rw [hx]
      · rfl
      · rw [Nat.mul_one]; rfl
theorem join_steps (first second n : Nat) : joinC first second n = stN (8 * n) first ^^^ second := by unfold joinC; rw [raw_zer]
theorem byte_steps : stN 8 topC = 8388608 := by decide +kernel
end Go.Proofs.YtckbplhplpnhaaaDoor
