/-
  The plain arithmetic of varints: the shortest bytes of a number ('vint'), how many they are, and that the number comes back of them ('dec'), whatever stands behind; cut off, it lacks something; with more bytes than it needs it is the same.
  The walks over the program's Take and the document's Take: both answer, of any bytes, the same number, length and error ('dec'), and change nothing. No condition but that a slice has its elements in memory.
  The walks over the functions that take fixed numbers (Take32, Take64, and the document's Number): of bytes that are long enough the number whose bytes they are, the lowest first; of fewer bytes none. No condition but that a slice has its elements in memory.
  Plain words on a new block of bytes in memory, and what a row of bytes is worth behind later changes. Nothing is proved of the program here.
  The walk over the program's inner function that copies a slice into new memory with some more room: one new block comes, the bytes and so many zeroes; nothing else changes.
-/
import Derived.Test.YtnopnjklcdcckaaGreatDoorM1
import Derived.Lib.BitFns
import Derived.Lib.Varint
import Derived.Laws.Bits64b
import Derived.Test.YtnopnjklcdcckaaGreatDoorRows
import Derived.Laws.MakeOwn
import Derived.Laws.CopyRow
import Derived.Laws.CopyOwn
import Derived.Laws.IdiomCopy
namespace Go.Proofs.YtnopnjklcdcckaaGreatDoor
set_option linter.unusedVariables false
open Go.RowKit

/-- the shortest varint of a number, in at most so many steps -/
def vintF : Nat → Nat → List Int
  | 0, n => [(n : Int)]
  | f + 1, n => if n < 128 then [(n : Int)] else ((n % 128 + 128 : Nat) : Int) :: vintF f (n / 128)
/-- the shortest varint of a number -/
def vint (n : Nat) : List Int := vintF n n
theorem vintF_enough : ∀ (f g n : Nat), n ≤ f → n ≤ g → vintF f n = vintF g n
  | 0, 0, n, _, _ => rfl
  | 0, g + 1, n, hf, _ => by
    have : n < 128 := by omega
    rw [vintF, vintF, if_pos this]
  | f + 1, 0, n, _, hg => by
    have : n < 128 := by omega
    rw [vintF, vintF, if_pos this]
  | f + 1, g + 1, n, hf, hg => by
    rw [vintF, vintF]
    by_cases h : n < 128
    · rw [if_pos h, if_pos h]
    · rw [if_neg h, if_neg h, vintF_enough f g (n / 128) (by omega) (by omega)]
theorem vint_small {n : Nat} (h : n < 128) : vint n = [(n : Int)] := by
  unfold vint
  rw [vintF_enough n (n + 1) n (Nat.le_refl _) (by omega), vintF, if_pos h]
theorem vint_big {n : Nat} (h : 128 ≤ n) : vint n = ((n % 128 + 128 : Nat) : Int) :: vint (n / 128) := by
  unfold vint
  rw [vintF_enough n (n + 1) n (Nat.le_refl _) (by omega), vintF, if_neg (by omega), vintF_enough n (n / 128) (n / 128) (by omega) (Nat.le_refl _)]

theorem vint_bytes (n : Nat) : ∀ z ∈ vint n, 0 ≤ z ∧ z ≤ 255 := by
  induction n using Nat.strongRecOn with
  | _ n ih =>
    intro z hz
    by_cases h : n < 128
    · rw [vint_small h] at hz; simp at hz; omega
    · rw [vint_big (by omega)] at hz
      rcases List.mem_cons.1 hz with rfl | hz
      · omega
      · exact ih (n / 128) (by omega) z hz
theorem vint_pos (n : Nat) : 1 ≤ (vint n).length := by
  by_cases h : n < 128
  · rw [vint_small h]; simp
  · rw [vint_big (by omega)]; simp
theorem vint_length : ∀ (k n : Nat), n < 128 ^ (k + 1) → (vint n).length ≤ k + 1
  | 0, n, h => by rw [vint_small (by simpa using h)]; simp
  | k + 1, n, h => by
    by_cases hx : n < 128
    · rw [vint_small hx]; simp
    · rw [vint_big (by omega), List.length_cons]
      have := vint_length k (n / 128) (by rw [Nat.pow_succ] at h; exact Nat.div_lt_of_lt_mul (by rw [Nat.mul_comm]; exact h))
      omega
theorem vint_ten {n : Nat} (h : n ≤ 18446744073709551615) : (vint n).length ≤ 10 :=
  vint_length 9 n (Nat.lt_of_le_of_lt h (by decide))

theorem bitLen_small : ∀ m : Fin 128, m.val ≠ 0 → 1 ≤ Lib.bitLen m.val ∧ Lib.bitLen m.val ≤ 7 := by decide +kernel
theorem size_vint (m : Nat) : m ≠ 0 → m < 2 ^ 64 → (Lib.bitLen m + 6) / 7 = (vint m).length := by
  induction m using Nat.strongRecOn with
  | _ m ih =>
    intro h0 h64
    by_cases h : m < 128
    · have : 1 ≤ Lib.bitLen m ∧ Lib.bitLen m ≤ 7 := bitLen_small ⟨m, h⟩ h0
      rw [vint_small h]
      simp only [List.length_singleton]
      omega
    · rw [vint_big (by omega), List.length_cons, ← ih (m / 128) (by omega) (by omega) (by omega)]
      have := Lib.bitLen_shift 7 m (by omega) h64
      rw [this, show (2 : Nat) ^ 7 = 128 by decide]
      omega
theorem or_one (n : Nat) : (n ||| 1) = n / 2 * 2 + 1 := by
  have h1 : (n ||| 1) / 2 = n / 2 := by rw [Nat.or_div_two]; simp
  have h2 : (n ||| 1) % 2 = 1 := Nat.or_mod_two_eq_one.2 (.inr rfl)
  omega
theorem vint_odd (n : Nat) : (vint (n / 2 * 2 + 1)).length = (vint n).length := by
  by_cases h : n < 128
  · rw [vint_small h, vint_small (by omega)]; rfl
  · rw [vint_big (n := n / 2 * 2 + 1) (by omega), vint_big (n := n) (by omega), List.length_cons, List.length_cons, show (n / 2 * 2 + 1) / 128 = n / 128 by omega]
theorem size_of (n : Nat) (h : n ≤ 18446744073709551615) : (Lib.bitLen (n ||| 1) + 6) / 7 = (vint n).length := by
  rw [or_one, size_vint _ (by omega) (by omega), vint_odd]

/-- one more byte: the number so far and seven bits more -/
theorem or_step (X : Nat) (k z : Nat) (hX : X < 2 ^ (7 * k)) (hk : k ≤ 9) (hz : z < 128) (h9 : k = 9 → z ≤ 1) :
    bits .or .u64 (X : Int) (IntKind.u64.wrap ((z : Int) % 128 * 2 ^ (7 * k))) = ((X + z * 2 ^ (7 * k) : Nat) : Int) ∧ X + z * 2 ^ (7 * k) < 2 ^ 64 := by
  have hp : 0 < 2 ^ (7 * k) := Nat.two_pow_pos _
  have hb : X + z * 2 ^ (7 * k) < 2 ^ 64 := by
    by_cases h : k = 9
    · subst h
      have := h9 rfl
      have hz01 : z = 0 ∨ z = 1 := by omega
      rcases hz01 with rfl | rfl <;> omega
    · have h1 : X + z * 2 ^ (7 * k) < 2 ^ (7 * k) * 128 := by
        have : z * 2 ^ (7 * k) ≤ 127 * 2 ^ (7 * k) := Nat.mul_le_mul_right _ (by omega)
        omega
      have h2 : 2 ^ (7 * k) * 128 ≤ 2 ^ 63 := by
        rw [show 128 = 2 ^ 7 by decide, ← Nat.pow_add]
        exact Nat.pow_le_pow_right (by decide) (by omega)
      omega
  refine ⟨?_, hb⟩
  have e : (z : Int) % 128 * 2 ^ (7 * k) = ((z * 2 ^ (7 * k) : Nat) : Int) := by
    rw [Int.emod_eq_of_lt (by omega) (by omega)]; simp
  rw [e]
  have hnn : (0 : Int) ≤ ((z * 2 ^ (7 * k) : Nat) : Int) := by omega
  have hu : ((z * 2 ^ (7 * k) : Nat) : Int) < 2 ^ 64 := by
    have : z * 2 ^ (7 * k) < 2 ^ 64 := by omega
    exact_mod_cast this
  rw [wraps_u64 _ hnn hu]
  have hX' : (X : Int) < 2 ^ (7 * k) := by exact_mod_cast hX
  have hX64 : (X : Int) < 2 ^ 64 := by
    have : X < 2 ^ 64 := by omega
    exact_mod_cast this
  rw [bits_join_low .u64 64 (by decide) wraps_u64 (7 * k) _ _ (by omega) hX' hX64 hnn (by
    have : (((z * 2 ^ (7 * k) : Nat)) : Int) = (z : Int) * 2 ^ (7 * k) := by simp
    rw [this]; exact Int.mul_emod_left _ _) hu]
  omega

/-- what was made of a number comes back, whatever stands behind; X: what came ahead -/
theorem dec_vint (n : Nat) : ∀ (X k : Nat) (t : List Int), X < 2 ^ (7 * k) → k ≤ 9 → X + n * 2 ^ (7 * k) < 2 ^ 64 →
    dec (X : Int) k (vint n ++ t) = (((X + n * 2 ^ (7 * k) : Nat) : Int), (k : Int) + (vint n).length, 0) := by
  induction n using Nat.strongRecOn with
  | _ n ih =>
    intro X k t hX hk hb
    have hp : 0 < 2 ^ (7 * k) := Nat.two_pow_pos _
    have h9 : k = 9 → n ≤ 1 := by
      intro h; subst h; omega
    by_cases h : n < 128
    · rw [vint_small h, List.singleton_append, dec_end _ _ _ _ (by omega) (by omega), (or_step X k n hX hk h h9).1]
      simp
    · have hk8 : k ≤ 8 := by omega
      rw [vint_big (by omega), List.cons_append, dec_on _ _ _ _ (by omega) (by omega)]
      have e : (((n % 128 + 128 : Nat) : Int)) % 128 = ((n % 128 : Nat) : Int) % 128 := by omega
      rw [e, (or_step X k (n % 128) hX hk (by omega) (by omega)).1]
      have hq : 2 ^ (7 * (k + 1)) = 2 ^ (7 * k) * 128 := by rw [show 7 * (k + 1) = 7 * k + 7 by omega, Nat.pow_add]
      have hsplit : n * 2 ^ (7 * k) = n % 128 * 2 ^ (7 * k) + n / 128 * 2 ^ (7 * (k + 1)) := by
        rw [hq]
        have : n = n % 128 + n / 128 * 128 := by omega
        calc n * 2 ^ (7 * k) = (n % 128 + n / 128 * 128) * 2 ^ (7 * k) := by rw [← this]
          _ = _ := by rw [Nat.add_mul, Nat.mul_assoc, Nat.mul_comm 128]
      have hz : n % 128 * 2 ^ (7 * k) ≤ 127 * 2 ^ (7 * k) := Nat.mul_le_mul_right _ (by omega)
      rw [ih (n / 128) (by omega) (X + n % 128 * 2 ^ (7 * k)) (k + 1) t (by rw [hq]; omega) (by omega) (by omega)]
      rw [hsplit, List.length_cons, Nat.add_assoc X]
      refine Prod.ext rfl (Prod.ext ?_ rfl)
      show ((k + 1 : Nat) : Int) + ((vint (n / 128)).length : Int) = (k : Int) + (((vint (n / 128)).length + 1 : Nat) : Int)
      omega
/-- of a number that was taken: it is a uint64, and its bytes were there -/
theorem dec_ok : ∀ (zs : List Int) (X k : Nat) (N K : Int), (∀ z ∈ zs, 0 ≤ z ∧ z ≤ 255) → X < 2 ^ (7 * k) → k ≤ 9 → dec (X : Int) k zs = (N, K, 0) →
    0 ≤ N ∧ N ≤ 18446744073709551615 ∧ (k : Int) < K ∧ K ≤ k + zs.length ∧ K ≤ 10
  | [], X, k, N, K, _, _, _, h => by rw [dec_nil] at h; simp at h
  | z :: zs, X, k, N, K, hb, hX, hk, h => by
    have hz := hb z List.mem_cons_self
    have hp : 0 < 2 ^ (7 * k) := Nat.two_pow_pos _
    by_cases hf : k = 9 ∧ 1 < z
    · rw [dec_form _ _ _ _ hf.1 hf.2] at h; simp at h
    · obtain ⟨y, rfl⟩ := Int.eq_ofNat_of_zero_le hz.1
      by_cases h1 : (y : Int) < 128
      · have hs := or_step X k y hX hk (by omega) (by omega)
        rw [dec_end _ _ _ _ hf h1, hs.1] at h
        simp only [Prod.mk.injEq] at h
        rw [List.length_cons]
        omega
      · have hs := or_step X k (y % 128) hX hk (by omega) (by omega)
        have e : ((y : Int)) % 128 = ((y % 128 : Nat) : Int) % 128 := by omega
        rw [dec_on _ _ _ _ hf (by omega), e, hs.1] at h
        have hq : 2 ^ (7 * (k + 1)) = 2 ^ (7 * k) * 128 := by rw [show 7 * (k + 1) = 7 * k + 7 by omega, Nat.pow_add]
        have hm : y % 128 * 2 ^ (7 * k) ≤ 127 * 2 ^ (7 * k) := Nat.mul_le_mul_right _ (by omega)
        have := dec_ok zs (X + y % 128 * 2 ^ (7 * k)) (k + 1) N K (fun z hz => hb z (List.mem_cons_of_mem _ hz)) (by rw [hq]; omega) (by omega) h
        rw [List.length_cons]
        omega
end Go.Proofs.YtnopnjklcdcckaaGreatDoor
namespace Go.Proofs.YtnopnjklcdcckaaGreatDoor
set_option linter.unusedVariables false
open Go.ChangeShapes Go.WideShapes Go.ChangeAt Go.RowKit
set_option maxHeartbeats 1000000 in
theorem take_any (a : Option Addr) (len cap : Nat) (zs : List Int) (w : World) (hB : IsB w a len zs) :
    Calls Tryz.prog 105 #[.slice a len cap] w fun e w' =>
      e = .returned (.tuple #[.int .u64 (dec 0 0 zs).1, .int .i64 (dec 0 0 zs).2.1, .int .i64 (dec 0 0 zs).2.2]) ∧ w' = w := by
  have hmax : len ≤ 281474976710656 := hB.2.1
  have HB : Hid (IsB w a len zs) := hB
  clear hB
  go_enter Tryz.func105, Tryz.ntmps105
  go_wp2
  go_loop [5, 6] (fun x i => ∃ (k : Nat) (X : Int), k ≤ len ∧ k ≤ 9 ∧ i = .int .i64 k ∧ x = .int .u64 X ∧ dec 0 0 zs = dec X k (zs.drop k)) (fun _ i => len - (intOf i).toNat)
  case atStart => exact ⟨0, 0, by omega, by omega, rfl, rfl, rfl⟩
  case round =>
    obtain ⟨k, X, hk, hk9, rfl, rfl, hd⟩ := hrel
    have HD : Hid (dec 0 0 zs = dec X k (zs.drop k)) := hd
    clear hd
    by_cases hlt : k < len
    · obtain ⟨b, off, z, rfl, hcell, hz0, hz1, hdr, _⟩ := isB_at HB.out hlt
      have HE : Hid (dec 0 0 zs = dec X k (z :: zs.drop (k + 1))) := by rw [← hdr]; exact HD.out
      clear hdr HD HB
      have hmask := u8_and127 z hz0 (by omega)
      by_cases h9 : k = 9
      · subst h9
        by_cases h1 : 1 < z
        · have HV : Hid (dec 0 0 zs = (0, 0, 2)) := HE.out.trans (dec_form _ _ _ _ rfl h1)
          clear HE
          go_wp2
          go_ret3
          exact ⟨ret_dec HV.out, rfl⟩
        · have HV : Hid (dec 0 0 zs = (bits .or .u64 X (z % 128 * 9223372036854775808), 10, 0)) := HE.out.trans (dec_nine _ _ _ hz0 h1)
          clear HE
          go_wp2
          go_ret3
          exact ⟨ret_dec HV.out, rfl⟩
      · by_cases h1 : z < 128
        · have HV : Hid (dec 0 0 zs = (bits .or .u64 X (IntKind.u64.wrap (z % 128 * 2 ^ (7 * k))), (k : Int) + 1, 0)) := HE.out.trans (dec_end _ _ _ _ (by omega) h1)
          clear HE
          go_wp2
          go_ret3
          exact ⟨ret_dec HV.out, rfl⟩
        · have HV : Hid (dec 0 0 zs = dec (bits .or .u64 X (IntKind.u64.wrap (z % 128 * 2 ^ (7 * k)))) (k + 1) (zs.drop (k + 1))) := HE.out.trans (dec_on _ _ _ _ (by omega) (by omega))
          clear HE
          go_wp2
          go_round
          case rel => exact ⟨k + 1, _, by omega, by omega, by go_num, rfl, HV.out⟩
          case measure => simp [intOf]; omega
    · have HV : Hid (dec 0 0 zs = (0, 0, 5)) := by
        refine (?_ : dec 0 0 zs = (0, 0, 5))
        rw [HD.out, List.drop_eq_nil_of_le (by have := HB.out.1; omega)]; rfl
      clear HD HB
      go_wp2
      go_ret3
      exact ⟨ret_dec HV.out, rfl⟩
end Go.Proofs.YtnopnjklcdcckaaGreatDoor
namespace Go.Proofs.YtnopnjklcdcckaaGreatDoor
set_option linter.unusedVariables false
open Go.ChangeShapes Go.WideShapes Go.ChangeAt Go.RowKit

/-- the number of bytes, the lowest first -/
def low : List Int → Int
  | [] => 0
  | z :: zs => z + 256 * low zs
theorem low_snoc (l : List Int) (z : Int) : low (l ++ [z]) = low l + z * 2 ^ (8 * l.length) := by
  induction l with
  | nil => simp [low]
  | cons a l ih =>
    simp only [List.cons_append, low, ih, List.length_cons]
    rw [show 8 * (l.length + 1) = 8 * l.length + 8 by omega, Int.pow_add]
    rw [Int.mul_add, show z * (2 ^ (8 * l.length) * 2 ^ 8) = 256 * (z * 2 ^ (8 * l.length)) by
      rw [show (2 : Int) ^ 8 = 256 by decide, ← Int.mul_assoc, Int.mul_comm _ 256]]
    omega
theorem low_bd (l : List Int) (h : ∀ z ∈ l, 0 ≤ z ∧ z ≤ 255) : 0 ≤ low l ∧ low l < 2 ^ (8 * l.length) := by
  induction l with
  | nil => simp [low]
  | cons a l ih =>
    have h1 := ih (fun z hz => h z (List.mem_cons_of_mem _ hz))
    have h2 := h a List.mem_cons_self
    simp only [low, List.length_cons]
    rw [show 8 * (l.length + 1) = 8 * l.length + 8 by omega, Int.pow_add, show (2 : Int) ^ 8 = 256 by decide]
    omega
theorem low_step (l : List Int) (z : Int) (h : ∀ z ∈ l, 0 ≤ z ∧ z ≤ 255) (h8 : l.length ≤ 7) (h0 : 0 ≤ z) (h1 : z ≤ 255) :
    bits .or .u64 (low l) (IntKind.u64.wrap (z * 2 ^ (8 * l.length))) = low (l ++ [z]) := by
  have hb := low_bd l h
  rw [low_snoc]
  have hp : (0 : Int) < 2 ^ (8 * l.length) := Int.pow_pos (by decide)
  have hu : z * 2 ^ (8 * l.length) < 2 ^ 64 := by
    have e : (2 : Int) ^ 64 = 2 ^ (8 * (7 - l.length)) * 256 * 2 ^ (8 * l.length) := by
      rw [show (256 : Int) = 2 ^ 8 by decide, ← Int.pow_add, ← Int.pow_add]; congr 1; omega
    rw [e]
    apply Int.mul_lt_mul_of_pos_right _ hp
    have : (0 : Int) < 2 ^ (8 * (7 - l.length)) := Int.pow_pos (by decide)
    omega
  have hl : low l < 2 ^ 64 := by
    refine Int.lt_of_lt_of_le hb.2 ?_
    have : 2 ^ (8 * l.length) ≤ 2 ^ 64 := Nat.pow_le_pow_right (by decide) (by omega)
    exact_mod_cast this
  have hnn : 0 ≤ z * 2 ^ (8 * l.length) := Int.mul_nonneg h0 (Int.le_of_lt hp)
  rw [wraps_u64 _ hnn hu]
  exact bits_join_low .u64 64 (by decide) wraps_u64 (8 * l.length) _ _ hb.1 hb.2 hl hnn (Int.mul_emod_left _ _) hu

theorem take_snoc_at {zs : List Int} {k : Nat} {z : Int} (h : zs[k]? = some z) : zs.take (k + 1) = zs.take k ++ [z] := by
  rw [List.take_add_one, h]; rfl
theorem low_round {w : World} {a : Option Addr} {len : Nat} {zs : List Int} (hB : IsB w a len zs) {k : Nat} {z : Int} (hk : k < len) (h7 : k ≤ 7) (h : zs[k]? = some z) (h0 : 0 ≤ z) (h1 : z ≤ 255) :
    bits .or .u64 (low (zs.take k)) (IntKind.u64.wrap (z * 2 ^ (8 * k))) = low (zs.take (k + 1)) := by
  have hl : (zs.take k).length = k := by have := hB.1; simp; omega
  have hm : ∀ x ∈ zs.take k, 0 ≤ x ∧ x ≤ 255 := by
    intro x hx
    obtain ⟨_, _, rfl | ⟨b, off, _, hh⟩⟩ := hB
    · simp at hx
    · exact hh.2 x (List.mem_of_mem_take hx)
  rw [take_snoc_at h]
  have := low_step (zs.take k) z hm (by omega) h0 h1
  rw [hl] at this
  exact this
theorem isB_take {w : World} {a : Option Addr} {len : Nat} {zs : List Int} (hB : IsB w a len zs) (k : Nat) (hk : k ≤ len) : IsB w a k (zs.take k) := by
  obtain ⟨h1, h2, h3⟩ := hB
  refine ⟨by simp; omega, by omega, ?_⟩
  rcases h3 with rfl | ⟨b, off, rfl, hh⟩
  · exact .inl (by simp)
  · refine .inr ⟨b, off, rfl, ?_, ?_⟩
    · intro j z hj
      refine hh.1 j z ?_
      rw [List.getElem?_take] at hj
      split at hj
      · exact hj
      · simp at hj
    · intro z hz
      exact hh.2 z (List.mem_of_mem_take hz)

theorem low4_bd {w : World} {a : Option Addr} {len : Nat} {zs : List Int} (hB : IsB w a len zs) (hl : 4 ≤ len) : 0 ≤ low (zs.take 4) ∧ low (zs.take 4) ≤ 4294967295 := by
  obtain ⟨h1, h2, h3⟩ := isB_take hB 4 hl
  have h4 : ∀ z ∈ zs.take 4, 0 ≤ z ∧ z ≤ 255 := by
    rcases h3 with h3 | ⟨b, off, _, hh⟩
    · rw [h3]; simp
    · exact hh.2
  have := low_bd _ h4
  rw [h1] at this
  omega

set_option maxHeartbeats 1000000 in
theorem fixed_any (a : Option Addr) (len cap : Nat) (zs : List Int) (s : Nat) (w : World) (hB : IsB w a len zs) (hs : s ≤ 8) (hl : s ≤ len) :
    Calls Tryz.prog 121 #[.slice a len cap, .int .i64 s] w fun e w' =>
      e = .returned (.tuple #[.int .u64 (low (zs.take s)), .int .i64 0]) ∧ w' = w := by
  have hmax : len ≤ 281474976710656 := hB.2.1
  have HB : Hid (IsB w a len zs) := hB
  clear hB
  go_enter Tryz.func121, Tryz.ntmps121
  go_wp2
  go_loop [6, 13] (fun x i => ∃ (k : Nat), k ≤ s ∧ i = .int .i64 k ∧ x = .int .u64 (low (zs.take k))) (fun _ i => s - (intOf i).toNat)
  case atStart => exact ⟨0, by omega, rfl, rfl⟩
  case round =>
    obtain ⟨k, hk, rfl, rfl⟩ := hrel
    by_cases hlt : k < s
    · obtain ⟨b, off, z, rfl, hcell, hz0, hz1, _, hat⟩ := isB_at HB.out (show k < len by omega)
      have HR : Hid _ := low_round HB.out (show k < len by omega) (by omega) hat hz0 hz1
      clear hat HB
      generalize low (zs.take k) = X at *
      go_wp2
      go_round
      case rel => exact ⟨k + 1, by omega, by go_num, by rw [← HR.out]⟩
      case measure => simp [intOf]; omega
    · obtain rfl : k = s := by omega
      go_wp2
      go_ret2
      exact ⟨rfl, rfl⟩
set_option maxHeartbeats 1000000 in
theorem fixed_none (a : Option Addr) (len cap : Nat) (s : Nat) (w : World) (hl : ¬ s ≤ len) :
    Calls Tryz.prog 121 #[.slice a len cap, .int .i64 s] w fun e w' =>
      e = .returned (.tuple #[.int .u64 0, .int .i64 5]) ∧ w' = w := by
  go_enter Tryz.func121, Tryz.ntmps121
  go_wp2
  go_ret2
  exact ⟨rfl, rfl⟩
set_option maxHeartbeats 1000000 in
theorem take32_any (a : Option Addr) (len cap : Nat) (zs : List Int) (w : World) (hB : IsB w a len zs) (hl : 4 ≤ len) :
    Calls Tryz.prog 107 #[.slice a len cap] w fun e w' =>
      e = .returned (.tuple #[.int .u32 (low (zs.take 4)), .int .i64 0]) ∧ w' = w := by
  have hr := low4_bd hB hl
  have HB : Hid (IsB w a len zs) := hB
  clear hB
  go_enter Tryz.func107, Tryz.ntmps107
  go_wp2_with fail
  refine (fixed_any _ _ _ zs 4 _ HB.out (by omega) hl).mono ?_
  rintro e w' ⟨rfl, rfl⟩
  go_wp2_with fail
  go_ret2
  exact ⟨rfl, rfl⟩
set_option maxHeartbeats 1000000 in
theorem take32_none (a : Option Addr) (len cap : Nat) (w : World) (hl : ¬ 4 ≤ len) :
    Calls Tryz.prog 107 #[.slice a len cap] w fun e w' =>
      e = .returned (.tuple #[.int .u32 0, .int .i64 5]) ∧ w' = w := by
  go_enter Tryz.func107, Tryz.ntmps107
  go_wp2_with fail
  refine (fixed_none _ _ _ 4 _ hl).mono ?_
  rintro e w' ⟨rfl, rfl⟩
  go_wp2_with fail
  go_ret2
  exact ⟨rfl, rfl⟩
set_option maxHeartbeats 1000000 in
theorem take64_any (a : Option Addr) (len cap : Nat) (zs : List Int) (w : World) (hB : IsB w a len zs) (hl : 8 ≤ len) :
    Calls Tryz.prog 106 #[.slice a len cap] w fun e w' =>
      e = .returned (.tuple #[.int .u64 (low (zs.take 8)), .int .i64 0]) ∧ w' = w := by
  have HB : Hid (IsB w a len zs) := hB
  clear hB
  go_enter Tryz.func106, Tryz.ntmps106
  go_wp2_with fail
  refine (fixed_any _ _ _ zs 8 _ HB.out (by omega) hl).mono ?_
  rintro e w' ⟨rfl, rfl⟩
  go_wp2_with fail
  go_ret2
  exact ⟨rfl, rfl⟩
set_option maxHeartbeats 1000000 in
theorem take64_none (a : Option Addr) (len cap : Nat) (w : World) (hl : ¬ 8 ≤ len) :
    Calls Tryz.prog 106 #[.slice a len cap] w fun e w' =>
      e = .returned (.tuple #[.int .u64 0, .int .i64 5]) ∧ w' = w := by
  go_enter Tryz.func106, Tryz.ntmps106
  go_wp2_with fail
  refine (fixed_none _ _ _ 8 _ hl).mono ?_
  rintro e w' ⟨rfl, rfl⟩
  go_wp2_with fail
  go_ret2
  exact ⟨rfl, rfl⟩
end Go.Proofs.YtnopnjklcdcckaaGreatDoor
namespace Go.Proofs.YtnopnjklcdcckaaGreatDoor
set_option linter.unusedVariables false
open Go.ChangeShapes Go.WideShapes Go.ChangeAt Go.RowKit

/-- the world with one new block, the bytes l -/
def blk (w : World) (t : TypeId) (l : List Int) : World := w.alloc (.cells (l.map (Value.int .u8)).toArray t)

theorem blk_heap (w : World) (t : TypeId) (l : List Int) : (blk w t l).heap[w.heap.size]? = some (.cells (l.map (Value.int .u8)).toArray t) := by
  show (w.heap.push _)[w.heap.size]? = _
  simp
theorem blk_cell (w : World) (t : TypeId) (l : List Int) {j : Nat} {z : Int} (h : l[j]? = some z) : (blk w t l).cell? ⟨w.heap.size, j, none⟩ = some (.int .u8 z) := by
  simp [World.cell?, blk_heap, h]
theorem blk_frozen (w : World) (t : TypeId) (l : List Int) (j : Nat) : (blk w t l).frozen? ⟨w.heap.size, j, none⟩ = false := by
  simp [World.frozen?, blk_heap]
theorem blk_below (w : World) (t : TypeId) (l : List Int) : Below w.heap.size w (blk w t l) := (Below.refl _ _).alloc (Nat.le_refl _) _
theorem blk_row (w : World) (t : TypeId) (l : List Int) (c : Array Value) : (blk w t l).setRow w.heap.size c = w.alloc (.cells c t) := by
  cases w with
  | mk heap tape drawn os output =>
    show World.mk ((heap.push _).modify heap.size _) tape drawn os output = World.mk (heap.push _) tape drawn os output
    congr 1
    apply Array.ext
    · simp
    · intro k h1 h2
      simp only [Array.getElem_modify, Array.getElem_push]
      by_cases hk : heap.size = k
      · subst hk; simp
      · have hlt : k < heap.size := by simp at h2; omega
        simp [hk, hlt]
theorem blk_set (w : World) (t : TypeId) (l : List Int) (j : Nat) (z : Int) : (blk w t l).setCell ⟨w.heap.size, j, none⟩ (.int .u8 z) = blk w t (l.set j z) := by
  rw [setCell_eq_setRow _ _ _ _ _ _ _ (blk_heap w t l), blk_row]
  unfold blk
  congr 2
  simp [List.map_set]
theorem held_blk (w : World) (t : TypeId) (l : List Int) (h : ∀ z ∈ l, 0 ≤ z ∧ z ≤ 255) : Held (blk w t l) w.heap.size 0 l :=
  ⟨fun j z hj => by rw [Nat.zero_add]; exact blk_cell w t l hj, h⟩
theorem isB_blk (w : World) (t : TypeId) (l : List Int) (h : ∀ z ∈ l, 0 ≤ z ∧ z ≤ 255) (hm : l.length ≤ 281474976710656) : IsB (blk w t l) (some ⟨w.heap.size, 0, none⟩) l.length l :=
  ⟨rfl, hm, .inr ⟨_, _, rfl, held_blk w t l h⟩⟩
theorem cell_ltB {w : World} {b o : Nat} {v : Value} (h : w.cell? ⟨b, o, none⟩ = some v) : b < w.heap.size := by
  by_cases hb : b < w.heap.size
  · exact hb
  · simp [World.cell?, Array.getElem?_eq_none (Nat.le_of_not_lt hb)] at h
theorem held_old {w w' : World} {b off : Nat} {zs : List Int} (h : Held w b off zs) (hb : Below w.heap.size w w') : Held w' b off zs :=
  ⟨fun j z hj => by have hc := h.1 j z hj; rw [hb.cell (cell_ltB hc)]; exact hc, h.2⟩
theorem isB_old {w w' : World} {a : Option Addr} {len : Nat} {zs : List Int} (h : IsB w a len zs) (hb : Below w.heap.size w w') : IsB w' a len zs := by
  obtain ⟨h1, h2, h3⟩ := h
  refine ⟨h1, h2, ?_⟩
  rcases h3 with h3 | ⟨b, off, ha, hh⟩
  · exact .inl h3
  · exact .inr ⟨b, off, ha, held_old hh hb⟩
theorem isB_bytes {w : World} {a : Option Addr} {len : Nat} {zs : List Int} (h : IsB w a len zs) : ∀ z ∈ zs, 0 ≤ z ∧ z ≤ 255 := by
  obtain ⟨_, _, rfl | ⟨b, off, _, hh⟩⟩ := h
  · simp
  · exact hh.2
theorem add_off (b o j : Nat) : (⟨b, o, none⟩ : Addr).add j = ⟨b, o + j, none⟩ := by unfold Addr.add; split <;> simp_all
end Go.Proofs.YtnopnjklcdcckaaGreatDoor
namespace Go.Proofs.YtnopnjklcdcckaaGreatDoor
set_option linter.unusedVariables false
open Go.ChangeShapes Go.WideShapes Go.ChangeAt Go.RowKit
theorem info5B : (Tryz.prog.info? 5).map (fun i => (i.zero, i.size, i.bytes)) = some (some (.int .u8 0), 1, 1) := by kernel_rfl

theorem made_u8 (n : Nat) : madeCells (Value.int .u8 0).cells n = ((List.replicate n (0 : Int)).map (Value.int .u8)).toArray := by
  apply Array.ext
  · simp [madeCells]
  · intro i h1 h2
    simp [madeCells, Value.cells, Nat.mod_one]
theorem grown_arith (l : List Int) (n : Nat) : ((List.replicate (l.length + n) (0 : Int)).map (Value.int .u8)).toArray.toList.take 0 ++ l.map (Value.int .u8) ++ ((List.replicate (l.length + n) (0 : Int)).map (Value.int .u8)).toArray.toList.drop (0 + (l.map (Value.int .u8)).length) = (l ++ List.replicate n 0).map (Value.int .u8) := by
  simp [List.drop_replicate]

theorem run_make_u8 (w : World) (l n : Nat) (hl : l ≤ n) (h : n ≤ 281474976710656) :
    (Instr.makeSlice 27 (.int .i64 (l : Int)) (.int .i64 (n : Int))).run Tryz.prog w = .ok (.slice (some ⟨w.heap.size, 0, none⟩) l n) (blk w 5 (List.replicate n 0)) := by
  obtain ⟨i0, hi, hz0, hz1, hz2⟩ := info_parts info5B
  have := run_make (P := Tryz.prog) w 27 5 i0 (.int .u8 0) Tryz.underlying27 hi hz0 .i64 .i64 l n (by omega) (by omega) (by rw [hz2]; omega) (by omega)
  rw [this]
  simp only [Int.toNat_natCast, hz1, Nat.mul_one]
  rw [made_u8]; rfl

theorem run_copy_u8 (w : World) (a : Option Addr) (len cap : Nat) (zs : List Int) (n dl dc : Nat) (ty : TypeId) (hB : IsB w a len zs) (hd : len ≤ dl) :
    (Builtin.copy_ #[27, 27] ty #[.slice (some ⟨w.heap.size, 0, none⟩) dl dc, .slice a len cap]).run Tryz.prog (blk w 5 (List.replicate (len + n) 0)) =
      .ok (goInt len) (blk w 5 (zs ++ List.replicate n 0)) := by
  have hs : (Tryz.prog.info? 5).map (·.size) = some 1 := by
    obtain ⟨i0, hi, hz0, hz1, hz2⟩ := info_parts info5B
    rw [hi]; simp [hz1]
  obtain ⟨h1, h2, h3⟩ := isB_old hB (blk_below w 5 (List.replicate (len + n) 0))
  by_cases h0 : len = 0
  · subst h0
    have hz : zs = [] := by simpa using h1
    subst hz
    have := run_copy_none (P := Tryz.prog) (blk w 5 (List.replicate (0 + n) 0)) 27 27 ty 5 (some ⟨w.heap.size, 0, none⟩) a dl dc 0 cap Tryz.underlying27 hs (by simp)
    rw [this]
    simp
  · rcases h3 with h3 | ⟨b, off, rfl, hh⟩
    · subst h3; simp at h1; omega
    · subst h1
      have := run_copy_row Tryz.prog (blk w 5 (List.replicate (zs.length + n) 0)) 27 27 ty 5 w.heap.size 0 dl dc ⟨b, off, none⟩ zs.length cap
        ((List.replicate (zs.length + n) (0 : Int)).map (Value.int .u8)).toArray 5 (zs.map (Value.int .u8)) Tryz.underlying27 hs (blk_heap w 5 _)
        (by rw [List.length_map]; exact (Nat.min_eq_left hd).symm) (by
          intro j v hj
          rw [List.getElem?_map] at hj
          cases hq : zs[j]? with
          | none => rw [hq] at hj; simp at hj
          | some z =>
            rw [hq] at hj
            simp at hj
            subst hj
            rw [add_off]; exact hh.1 j z hq) (by simp) (by intro v hv; simp at hv; obtain ⟨z, _, rfl⟩ := hv; rfl)
      rw [this, grown_arith, blk_row]
      simp [blk]
set_option maxHeartbeats 1000000 in
theorem grown_any (a : Option Addr) (len cap : Nat) (zs : List Int) (n : Nat) (w : World) (hB : IsB w a len zs) (hn : len + n ≤ 281474976710656) :
    Calls Tryz.prog 112 #[.slice a len cap, .int .i64 n] w fun e w' =>
      e = .returned (.slice (some ⟨w.heap.size, 0, none⟩) (len + n) (len + n)) ∧ w' = blk w 5 (zs ++ List.replicate n 0) := by
  have hm := run_make_u8 w (len + n) (len + n) (Nat.le_refl _) hn
  have hc := fun ty => run_copy_u8 w a len cap zs n (len + n) (len + n) ty hB (by omega)
  have hmax : len ≤ 281474976710656 := hB.2.1
  clear hB
  rw [Int.natCast_add] at hm
  go_enter Tryz.func112, Tryz.ntmps112
  go_wp2
  go_ret
  exact ⟨rfl, rfl⟩
end Go.Proofs.YtnopnjklcdcckaaGreatDoor
