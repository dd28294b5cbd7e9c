/-
  The plain arithmetic of varints: the shortest bytes of a number ('vint'), how many they are, and that the number comes back of them ('dec'), whatever stands behind; cut off, it lacks something; with more bytes than it needs it is the same.
  The walks over the program's Take and the document's Take: both answer, of any bytes, the same number, length and error ('dec'), and change nothing. No condition but that a slice has its elements in memory.
  The walks over the functions that take fixed numbers (Take32, Take64, and the document's Number): of bytes that are long enough the number whose bytes they are, the lowest first; of fewer bytes none. No condition but that a slice has its elements in memory.
  Plain words on a new block of bytes in memory, and what a row of bytes is worth behind later changes. Nothing is proved of the program here.
-/
import Derived.Test.YtknijddlacmelaaDoorM2
import Derived.Lib.BitFns
import Derived.Lib.Varint
import Derived.Laws.Bits64b
import Derived.Test.YtknijddlacmelaaDoorRows
import Derived.Laws.MakeOwn
import Derived.Laws.CopyRow
import Derived.Laws.CopyOwn
import Derived.Laws.IdiomCopy
namespace Go.Proofs.YtknijddlacmelaaDoor
set_option linter.unusedVariables false
open Go.RowKit

/-- one more byte: the number so far and seven bits more -/
theorem or_step (X : Nat) (k z : Nat) (hX : X < 2 ^ (7 * k)) (hk : k ≤ 9) (hz : z < 128) (h9 : k = 9 → z ≤ 1) :
    bits .or .u64 (X : Int) (IntKind.u64.wrap ((z : Int) % 128 * 2 ^ (7 * k))) = ((X + z * 2 ^ (7 * k) : Nat) : Int) ∧ X + z * 2 ^ (7 * k) < 2 ^ 64 := by
  have hp : 0 < 2 ^ (7 * k) := Nat.two_pow_pos _
  have hb : X + z * 2 ^ (7 * k) < 2 ^ 64 := by
    by_cases h : k = 9
    · subst h
      have := h9 rfl
      have hz01 : z = 0 ∨ z = 1 := by omega
      rcases hz01 with rfl | rfl <;> omega
    · have h1 : X + z * 2 ^ (7 * k) < 2 ^ (7 * k) * 128 := by
        have : z * 2 ^ (7 * k) ≤ 127 * 2 ^ (7 * k) := Nat.mul_le_mul_right _ (by omega)
        omega
      have h2 : 2 ^ (7 * k) * 128 ≤ 2 ^ 63 := by
        rw [show 128 = 2 ^ 7 by decide, ← Nat.pow_add]
        exact Nat.pow_le_pow_right (by decide) (by omega)
      omega
  refine ⟨?_, hb⟩
  have e : (z : Int) % 128 * 2 ^ (7 * k) = ((z * 2 ^ (7 * k) : Nat) : Int) := by
    rw [Int.emod_eq_of_lt (by omega) (by omega)]; simp
  rw [e]
  have hnn : (0 : Int) ≤ ((z * 2 ^ (7 * k) : Nat) : Int) := by omega
  have hu : ((z * 2 ^ (7 * k) : Nat) : Int) < 2 ^ 64 := by
    have : z * 2 ^ (7 * k) < 2 ^ 64 := by omega
    exact_mod_cast this
  rw [wraps_u64 _ hnn hu]
  have hX' : (X : Int) < 2 ^ (7 * k) := by exact_mod_cast hX
  have hX64 : (X : Int) < 2 ^ 64 := by
    have : X < 2 ^ 64 := by omega
    exact_mod_cast this
  rw [bits_join_low .u64 64 (by decide) wraps_u64 (7 * k) _ _ (by omega) hX' hX64 hnn (by
    have : (((z * 2 ^ (7 * k) : Nat)) : Int) = (z : Int) * 2 ^ (7 * k) := by simp
    rw [this]; exact Int.mul_emod_left _ _) hu]
  omega

/-- of a number that was taken: it is a uint64, and its bytes were there -/
theorem dec_ok : ∀ (zs : List Int) (X k : Nat) (N K : Int), (∀ z ∈ zs, 0 ≤ z ∧ z ≤ 255) → X < 2 ^ (7 * k) → k ≤ 9 → dec (X : Int) k zs = (N, K, 0) →
    0 ≤ N ∧ N ≤ 18446744073709551615 ∧ (k : Int) < K ∧ K ≤ k + zs.length ∧ K ≤ 10
  | [], X, k, N, K, _, _, _, h => by rw [dec_nil] at h; simp at h
  | z :: zs, X, k, N, K, hb, hX, hk, h => by
    have hz := hb z List.mem_cons_self
    have hp : 0 < 2 ^ (7 * k) := Nat.two_pow_pos _
    by_cases hf : k = 9 ∧ 1 < z
    · rw [dec_form _ _ _ _ hf.1 hf.2] at h; simp at h
    · obtain ⟨y, rfl⟩ := Int.eq_ofNat_of_zero_le hz.1
      by_cases h1 : (y : Int) < 128
      · have hs := or_step X k y hX hk (by omega) (by omega)
        rw [dec_end _ _ _ _ hf h1, hs.1] at h
        simp only [Prod.mk.injEq] at h
        rw [List.length_cons]
        omega
      · have hs := or_step X k (y % 128) hX hk (by omega) (by omega)
        have e : ((y : Int)) % 128 = ((y % 128 : Nat) : Int) % 128 := by omega
        rw [dec_on _ _ _ _ hf (by omega), e, hs.1] at h
        have hq : 2 ^ (7 * (k + 1)) = 2 ^ (7 * k) * 128 := by rw [show 7 * (k + 1) = 7 * k + 7 by omega, Nat.pow_add]
        have hm : y % 128 * 2 ^ (7 * k) ≤ 127 * 2 ^ (7 * k) := Nat.mul_le_mul_right _ (by omega)
        have := dec_ok zs (X + y % 128 * 2 ^ (7 * k)) (k + 1) N K (fun z hz => hb z (List.mem_cons_of_mem _ hz)) (by rw [hq]; omega) (by omega) h
        rw [List.length_cons]
        omega
end Go.Proofs.YtknijddlacmelaaDoor
namespace Go.Proofs.YtknijddlacmelaaDoor
set_option linter.unusedVariables false
open Go.ChangeShapes Go.WideShapes Go.ChangeAt Go.RowKit
set_option maxHeartbeats 1000000 in
theorem take_any (a : Option Addr) (len cap : Nat) (zs : List Int) (w : World) (hB : IsB w a len zs) :
    Calls Tryd.prog 63 #[.slice a len cap] w fun e w' =>
      e = .returned (.tuple #[.int .u64 (dec 0 0 zs).1, .int .i64 (dec 0 0 zs).2.1, .int .i64 (dec 0 0 zs).2.2]) ∧ w' = w := by
  have hmax : len ≤ 281474976710656 := hB.2.1
  have HB : Hid (IsB w a len zs) := hB
  clear hB
  go_enter Tryd.func63, Tryd.ntmps63
  go_wp2
  go_loop [5, 6] (fun x i => ∃ (k : Nat) (X : Int), k ≤ len ∧ k ≤ 9 ∧ i = .int .i64 k ∧ x = .int .u64 X ∧ dec 0 0 zs = dec X k (zs.drop k)) (fun _ i => len - (intOf i).toNat)
  case atStart => exact ⟨0, 0, by omega, by omega, rfl, rfl, rfl⟩
  case round =>
    obtain ⟨k, X, hk, hk9, rfl, rfl, hd⟩ := hrel
    have HD : Hid (dec 0 0 zs = dec X k (zs.drop k)) := hd
    clear hd
    by_cases hlt : k < len
    · obtain ⟨b, off, z, rfl, hcell, hz0, hz1, hdr, _⟩ := isB_at HB.out hlt
      have HE : Hid (dec 0 0 zs = dec X k (z :: zs.drop (k + 1))) := by rw [← hdr]; exact HD.out
      clear hdr HD HB
      have hmask := u8_and127 z hz0 (by omega)
      by_cases h9 : k = 9
      · subst h9
        by_cases h1 : 1 < z
        · have HV : Hid (dec 0 0 zs = (0, 0, 2)) := HE.out.trans (dec_form _ _ _ _ rfl h1)
          clear HE
          go_wp2
          go_ret3
          exact ⟨ret_dec HV.out, rfl⟩
        · have HV : Hid (dec 0 0 zs = (bits .or .u64 X (z % 128 * 9223372036854775808), 10, 0)) := HE.out.trans (dec_nine _ _ _ hz0 h1)
          clear HE
          go_wp2
          go_ret3
          exact ⟨ret_dec HV.out, rfl⟩
      · by_cases h1 : z < 128
        · have HV : Hid (dec 0 0 zs = (bits .or .u64 X (IntKind.u64.wrap (z % 128 * 2 ^ (7 * k))), (k : Int) + 1, 0)) := HE.out.trans (dec_end _ _ _ _ (by omega) h1)
          clear HE
          go_wp2
          go_ret3
          exact ⟨ret_dec HV.out, rfl⟩
        · have HV : Hid (dec 0 0 zs = dec (bits .or .u64 X (IntKind.u64.wrap (z % 128 * 2 ^ (7 * k)))) (k + 1) (zs.drop (k + 1))) := HE.out.trans (dec_on _ _ _ _ (by omega) (by omega))
          clear HE
          go_wp2
          go_round
          case rel => exact ⟨k + 1, _, by omega, by omega, by go_num, rfl, HV.out⟩
          case measure => simp [intOf]; omega
    · have HV : Hid (dec 0 0 zs = (0, 0, 5)) := by
        refine (?_ : dec 0 0 zs = (0, 0, 5))
        rw [HD.out, List.drop_eq_nil_of_le (by have := HB.out.1; omega)]; rfl
      clear HD HB
      go_wp2
      go_ret3
      exact ⟨ret_dec HV.out, rfl⟩
end Go.Proofs.YtknijddlacmelaaDoor
namespace Go.Proofs.YtknijddlacmelaaDoor
set_option linter.unusedVariables false
open Go.ChangeShapes Go.WideShapes Go.ChangeAt Go.RowKit

/-- the number of bytes, the lowest first -/
def low : List Int → Int
  | [] => 0
  | z :: zs => z + 256 * low zs
theorem low_snoc (l : List Int) (z : Int) : low (l ++ [z]) = low l + z * 2 ^ (8 * l.length) := by
  induction l with
  | nil => simp [low]
  | cons a l ih =>
    simp only [List.cons_append, low, ih, List.length_cons]
    rw [show 8 * (l.length + 1) = 8 * l.length + 8 by omega, Int.pow_add]
    rw [Int.mul_add, show z * (2 ^ (8 * l.length) * 2 ^ 8) = 256 * (z * 2 ^ (8 * l.length)) by
      rw [show (2 : Int) ^ 8 = 256 by decide, ← Int.mul_assoc, Int.mul_comm _ 256]]
    omega
theorem low_bd (l : List Int) (h : ∀ z ∈ l, 0 ≤ z ∧ z ≤ 255) : 0 ≤ low l ∧ low l < 2 ^ (8 * l.length) := by
  induction l with
  | nil => simp [low]
  | cons a l ih =>
    have h1 := ih (fun z hz => h z (List.mem_cons_of_mem _ hz))
    have h2 := h a List.mem_cons_self
    simp only [low, List.length_cons]
    rw [show 8 * (l.length + 1) = 8 * l.length + 8 by omega, Int.pow_add, show (2 : Int) ^ 8 = 256 by decide]
    omega
theorem low_step (l : List Int) (z : Int) (h : ∀ z ∈ l, 0 ≤ z ∧ z ≤ 255) (h8 : l.length ≤ 7) (h0 : 0 ≤ z) (h1 : z ≤ 255) :
    bits .or .u64 (low l) (IntKind.u64.wrap (z * 2 ^ (8 * l.length))) = low (l ++ [z]) := by
  have hb := low_bd l h
  rw [low_snoc]
  have hp : (0 : Int) < 2 ^ (8 * l.length) := Int.pow_pos (by decide)
  have hu : z * 2 ^ (8 * l.length) < 2 ^ 64 := by
    have e : (2 : Int) ^ 64 = 2 ^ (8 * (7 - l.length)) * 256 * 2 ^ (8 * l.length) := by
      rw [show (256 : Int) = 2 ^ 8 by decide, ← Int.pow_add, ← Int.pow_add]; congr 1; omega
    rw [e]
    apply Int.mul_lt_mul_of_pos_right _ hp
    have : (0 : Int) < 2 ^ (8 * (7 - l.length)) := Int.pow_pos (by decide)
    omega
  have hl : low l < 2 ^ 64 := by
    refine Int.lt_of_lt_of_le hb.2 ?_
    have : 2 ^ (8 * l.length) ≤ 2 ^ 64 := Nat.pow_le_pow_right (by decide) (by omega)
    exact_mod_cast this
  have hnn : 0 ≤ z * 2 ^ (8 * l.length) := Int.mul_nonneg h0 (Int.le_of_lt hp)
  rw [wraps_u64 _ hnn hu]
  exact bits_join_low .u64 64 (by decide) wraps_u64 (8 * l.length) _ _ hb.1 hb.2 hl hnn (Int.mul_emod_left _ _) hu

theorem take_snoc_at {zs : List Int} {k : Nat} {z : Int} (h : zs[k]? = some z) : zs.take (k + 1) = zs.take k ++ [z] := by
  rw [List.take_add_one, h]; rfl
theorem low_round {w : World} {a : Option Addr} {len : Nat} {zs : List Int} (hB : IsB w a len zs) {k : Nat} {z : Int} (hk : k < len) (h7 : k ≤ 7) (h : zs[k]? = some z) (h0 : 0 ≤ z) (h1 : z ≤ 255) :
    bits .or .u64 (low (zs.take k)) (IntKind.u64.wrap (z * 2 ^ (8 * k))) = low (zs.take (k + 1)) := by
  have hl : (zs.take k).length = k := by have := hB.1; simp; omega
  have hm : ∀ x ∈ zs.take k, 0 ≤ x ∧ x ≤ 255 := by
    intro x hx
    obtain ⟨_, _, rfl | ⟨b, off, _, hh⟩⟩ := hB
    · simp at hx
    · exact hh.2 x (List.mem_of_mem_take hx)
  rw [take_snoc_at h]
  have := low_step (zs.take k) z hm (by omega) h0 h1
  rw [hl] at this
  exact this
theorem isB_take {w : World} {a : Option Addr} {len : Nat} {zs : List Int} (hB : IsB w a len zs) (k : Nat) (hk : k ≤ len) : IsB w a k (zs.take k) := by
  obtain ⟨h1, h2, h3⟩ := hB
  refine ⟨by simp; omega, by omega, ?_⟩
  rcases h3 with rfl | ⟨b, off, rfl, hh⟩
  · exact .inl (by simp)
  · refine .inr ⟨b, off, rfl, ?_, ?_⟩
    · intro j z hj
      refine hh.1 j z ?_
      rw [List.getElem?_take] at hj
      split at hj
      · exact hj
      · simp at hj
    · intro z hz
      exact hh.2 z (List.mem_of_mem_take hz)

theorem low4_bd {w : World} {a : Option Addr} {len : Nat} {zs : List Int} (hB : IsB w a len zs) (hl : 4 ≤ len) : 0 ≤ low (zs.take 4) ∧ low (zs.take 4) ≤ 4294967295 := by
  obtain ⟨h1, h2, h3⟩ := isB_take hB 4 hl
  have h4 : ∀ z ∈ zs.take 4, 0 ≤ z ∧ z ≤ 255 := by
    rcases h3 with h3 | ⟨b, off, _, hh⟩
    · rw [h3]; simp
    · exact hh.2
  have := low_bd _ h4
  rw [h1] at this
  omega

set_option maxHeartbeats 1000000 in
theorem fixed_any (a : Option Addr) (len cap : Nat) (zs : List Int) (s : Nat) (w : World) (hB : IsB w a len zs) (hs : s ≤ 8) (hl : s ≤ len) :
    Calls Tryd.prog 73 #[.slice a len cap, .int .i64 s] w fun e w' =>
      e = .returned (.tuple #[.int .u64 (low (zs.take s)), .int .i64 0]) ∧ w' = w := by
  have hmax : len ≤ 281474976710656 := hB.2.1
  have HB : Hid (IsB w a len zs) := hB
  clear hB
  go_enter Tryd.func73, Tryd.ntmps73
  go_wp2
  go_loop [6, 13] (fun x i => ∃ (k : Nat), k ≤ s ∧ i = .int .i64 k ∧ x = .int .u64 (low (zs.take k))) (fun _ i => s - (intOf i).toNat)
  case atStart => exact ⟨0, by omega, rfl, rfl⟩
  case round =>
    obtain ⟨k, hk, rfl, rfl⟩ := hrel
    by_cases hlt : k < s
    · obtain ⟨b, off, z, rfl, hcell, hz0, hz1, _, hat⟩ := isB_at HB.out (show k < len by omega)
      have HR : Hid _ := low_round HB.out (show k < len by omega) (by omega) hat hz0 hz1
      clear hat HB
      generalize low (zs.take k) = X at *
      go_wp2
      go_round
      case rel => exact ⟨k + 1, by omega, by go_num, by rw [← HR.out]⟩
      case measure => simp [intOf]; omega
    · obtain rfl : k = s := by omega
      go_wp2
      go_ret2
      exact ⟨rfl, rfl⟩
set_option maxHeartbeats 1000000 in
theorem fixed_none (a : Option Addr) (len cap : Nat) (s : Nat) (w : World) (hl : ¬ s ≤ len) :
    Calls Tryd.prog 73 #[.slice a len cap, .int .i64 s] w fun e w' =>
      e = .returned (.tuple #[.int .u64 0, .int .i64 5]) ∧ w' = w := by
  go_enter Tryd.func73, Tryd.ntmps73
  go_wp2
  go_ret2
  exact ⟨rfl, rfl⟩
set_option maxHeartbeats 1000000 in
theorem take32_any (a : Option Addr) (len cap : Nat) (zs : List Int) (w : World) (hB : IsB w a len zs) (hl : 4 ≤ len) :
    Calls Tryd.prog 66 #[.slice a len cap] w fun e w' =>
      e = .returned (.tuple #[.int .u32 (low (zs.take 4)), .int .i64 0]) ∧ w' = w := by
  have hr := low4_bd hB hl
  have HB : Hid (IsB w a len zs) := hB
  clear hB
  go_enter Tryd.func66, Tryd.ntmps66
  go_wp2_with fail
  refine (fixed_any _ _ _ zs 4 _ HB.out (by omega) hl).mono ?_
  rintro e w' ⟨rfl, rfl⟩
  go_wp2_with fail
  go_ret2
  exact ⟨rfl, rfl⟩
set_option maxHeartbeats 1000000 in
theorem take32_none (a : Option Addr) (len cap : Nat) (w : World) (hl : ¬ 4 ≤ len) :
    Calls Tryd.prog 66 #[.slice a len cap] w fun e w' =>
      e = .returned (.tuple #[.int .u32 0, .int .i64 5]) ∧ w' = w := by
  go_enter Tryd.func66, Tryd.ntmps66
  go_wp2_with fail
  refine (fixed_none _ _ _ 4 _ hl).mono ?_
  rintro e w' ⟨rfl, rfl⟩
  go_wp2_with fail
  go_ret2
  exact ⟨rfl, rfl⟩
set_option maxHeartbeats 1000000 in
theorem take64_any (a : Option Addr) (len cap : Nat) (zs : List Int) (w : World) (hB : IsB w a len zs) (hl : 8 ≤ len) :
    Calls Tryd.prog 65 #[.slice a len cap] w fun e w' =>
      e = .returned (.tuple #[.int .u64 (low (zs.take 8)), .int .i64 0]) ∧ w' = w := by
  have HB : Hid (IsB w a len zs) := hB
  clear hB
  go_enter Tryd.func65, Tryd.ntmps65
  go_wp2_with fail
  refine (fixed_any _ _ _ zs 8 _ HB.out (by omega) hl).mono ?_
  rintro e w' ⟨rfl, rfl⟩
  go_wp2_with fail
  go_ret2
  exact ⟨rfl, rfl⟩
set_option maxHeartbeats 1000000 in
theorem take64_none (a : Option Addr) (len cap : Nat) (w : World) (hl : ¬ 8 ≤ len) :
    Calls Tryd.prog 65 #[.slice a len cap] w fun e w' =>
      e = .returned (.tuple #[.int .u64 0, .int .i64 5]) ∧ w' = w := by
  go_enter Tryd.func65, Tryd.ntmps65
  go_wp2_with fail
  refine (fixed_none _ _ _ 8 _ hl).mono ?_
  rintro e w' ⟨rfl, rfl⟩
  go_wp2_with fail
  go_ret2
  exact ⟨rfl, rfl⟩
end Go.Proofs.YtknijddlacmelaaDoor
namespace Go.Proofs.YtknijddlacmelaaDoor
set_option linter.unusedVariables false
open Go.ChangeShapes Go.WideShapes Go.ChangeAt Go.RowKit

/-- the world with one new block, the bytes l -/
def blk (w : World) (t : TypeId) (l : List Int) : World := w.alloc (.cells (l.map (Value.int .u8)).toArray t)

theorem cell_ltB {w : World} {b o : Nat} {v : Value} (h : w.cell? ⟨b, o, none⟩ = some v) : b < w.heap.size := by
  by_cases hb : b < w.heap.size
  · exact hb
  · simp [World.cell?, Array.getElem?_eq_none (Nat.le_of_not_lt hb)] at h
theorem held_old {w w' : World} {b off : Nat} {zs : List Int} (h : Held w b off zs) (hb : Below w.heap.size w w') : Held w' b off zs :=
  ⟨fun j z hj => by have hc := h.1 j z hj; rw [hb.cell (cell_ltB hc)]; exact hc, h.2⟩
theorem isB_old {w w' : World} {a : Option Addr} {len : Nat} {zs : List Int} (h : IsB w a len zs) (hb : Below w.heap.size w w') : IsB w' a len zs := by
  obtain ⟨h1, h2, h3⟩ := h
  refine ⟨h1, h2, ?_⟩
  rcases h3 with h3 | ⟨b, off, ha, hh⟩
  · exact .inl h3
  · exact .inr ⟨b, off, ha, held_old hh hb⟩
theorem isB_bytes {w : World} {a : Option Addr} {len : Nat} {zs : List Int} (h : IsB w a len zs) : ∀ z ∈ zs, 0 ≤ z ∧ z ≤ 255 := by
  obtain ⟨_, _, rfl | ⟨b, off, _, hh⟩⟩ := h
  · simp
  · exact hh.2
theorem add_off (b o j : Nat) : (⟨b, o, none⟩ : Addr).add j = ⟨b, o + j, none⟩ := by unfold Addr.add; split <;> simp_all
end Go.Proofs.YtknijddlacmelaaDoor
