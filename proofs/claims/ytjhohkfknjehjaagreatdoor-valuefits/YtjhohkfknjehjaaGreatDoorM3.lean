/-
  The walks over the program's Take and the document's Take: both answer, of any bytes, the same number, length and error ('dec'), and change nothing. No condition but that a slice has its elements in memory.
  The walks over the functions that take fixed numbers (Take32, Take64, and the document's Number): of bytes that are long enough the number whose bytes they are, the lowest first; of fewer bytes none. No condition but that a slice has its elements in memory.
  The walk over the document's Number: of up to eight bytes the number whose bytes they are, the lowest first.
  Plain words on a new block of bytes in memory, and what a row of bytes is worth behind later changes. Nothing is proved of the program here.
  The walk over the program's inner function that copies a slice into new memory with some more room: one new block comes, the bytes and so many zeroes; nothing else changes.
-/
import Derived.Test.YtjhohkfknjehjaaGreatDoorRows
import Derived.Test.YtjhohkfknjehjaaGreatDoorM2
import Derived.Laws.MakeOwn
import Derived.Laws.CopyRow
import Derived.Laws.CopyOwn
import Derived.Laws.IdiomCopy
namespace Go.Proofs.YtjhohkfknjehjaaGreatDoor
set_option linter.unusedVariables false
open Go.ChangeShapes Go.WideShapes Go.ChangeAt Go.RowKit
set_option maxHeartbeats 1000000 in
theorem take_any (a : Option Addr) (len cap : Nat) (zs : List Int) (w : World) (hB : IsB w a len zs) :
    Calls Tryz.prog 98 #[.slice a len cap] w fun e w' =>
      e = .returned (.tuple #[.int .u64 (dec 0 0 zs).1, .int .i64 (dec 0 0 zs).2.1, .int .i64 (dec 0 0 zs).2.2]) ∧ w' = w := by
  have hmax : len ≤ 281474976710656 := hB.2.1
  have HB : Hid (IsB w a len zs) := hB
  clear hB
  go_enter Tryz.func98, Tryz.ntmps98
  go_wp2
  go_loop [5, 6] (fun x i => ∃ (k : Nat) (X : Int), k ≤ len ∧ k ≤ 9 ∧ i = .int .i64 k ∧ x = .int .u64 X ∧ dec 0 0 zs = dec X k (zs.drop k)) (fun _ i => len - (intOf i).toNat)
  case atStart => exact ⟨0, 0, by omega, by omega, rfl, rfl, rfl⟩
  case round =>
    obtain ⟨k, X, hk, hk9, rfl, rfl, hd⟩ := hrel
    have HD : Hid (dec 0 0 zs = dec X k (zs.drop k)) := hd
    clear hd
    by_cases hlt : k < len
    · obtain ⟨b, off, z, rfl, hcell, hz0, hz1, hdr, _⟩ := isB_at HB.out hlt
      have HE : Hid (dec 0 0 zs = dec X k (z :: zs.drop (k + 1))) := by rw [← hdr]; exact HD.out
      clear hdr HD HB
      have hmask := u8_and127 z hz0 (by omega)
      by_cases h9 : k = 9
      · subst h9
        by_cases h1 : 1 < z
        · have HV : Hid (dec 0 0 zs = (0, 0, 2)) := HE.out.trans (dec_form _ _ _ _ rfl h1)
          clear HE
          go_wp2
          go_ret3
          exact ⟨ret_dec HV.out, rfl⟩
        · have HV : Hid (dec 0 0 zs = (bits .or .u64 X (z % 128 * 9223372036854775808), 10, 0)) := HE.out.trans (dec_nine _ _ _ hz0 h1)
          clear HE
          go_wp2
          go_ret3
          exact ⟨ret_dec HV.out, rfl⟩
      · by_cases h1 : z < 128
        · have HV : Hid (dec 0 0 zs = (bits .or .u64 X (IntKind.u64.wrap (z % 128 * 2 ^ (7 * k))), (k : Int) + 1, 0)) := HE.out.trans (dec_end _ _ _ _ (by omega) h1)
          clear HE
          go_wp2
          go_ret3
          exact ⟨ret_dec HV.out, rfl⟩
        · have HV : Hid (dec 0 0 zs = dec (bits .or .u64 X (IntKind.u64.wrap (z % 128 * 2 ^ (7 * k)))) (k + 1) (zs.drop (k + 1))) := HE.out.trans (dec_on _ _ _ _ (by omega) (by omega))
          clear HE
          go_wp2
          go_round
          case rel => exact ⟨k + 1, _, by omega, by omega, by go_num, rfl, HV.out⟩
          case measure => simp [intOf]; omega
    · have HV : Hid (dec 0 0 zs = (0, 0, 5)) := by
        refine (?_ : dec 0 0 zs = (0, 0, 5))
        rw [HD.out, List.drop_eq_nil_of_le (by have := HB.out.1; omega)]; rfl
      clear HD HB
      go_wp2
      go_ret3
      exact ⟨ret_dec HV.out, rfl⟩
set_option maxHeartbeats 1000000 in
theorem takeRB_any (a : Option Addr) (len cap : Nat) (zs : List Int) (w : World) (hB : IsB w a len zs) :
    Calls Tryz.prog 94 #[.slice a len cap] w fun e w' =>
      e = .returned (.tuple #[.int .u64 (dec 0 0 zs).1, .int .i64 (dec 0 0 zs).2.1, .int .i64 (dec 0 0 zs).2.2]) ∧ w' = w := by
  have hmax : len ≤ 281474976710656 := hB.2.1
  have HB : Hid (IsB w a len zs) := hB
  clear hB
  go_enter Tryz.func94, Tryz.ntmps94
  go_wp2
  go_loop [5, 9] (fun x i => ∃ (k : Nat) (X : Int), k ≤ len ∧ k ≤ 9 ∧ i = .int .i64 k ∧ x = .int .u64 X ∧ dec 0 0 zs = dec X k (zs.drop k)) (fun _ i => len - (intOf i).toNat)
  case atStart => exact ⟨0, 0, by omega, by omega, rfl, rfl, rfl⟩
  case round =>
    obtain ⟨k, X, hk, hk9, rfl, rfl, hd⟩ := hrel
    have HD : Hid (dec 0 0 zs = dec X k (zs.drop k)) := hd
    clear hd
    by_cases hlt : k < len
    · obtain ⟨b, off, z, rfl, hcell, hz0, hz1, hdr, _⟩ := isB_at HB.out hlt
      have HE : Hid (dec 0 0 zs = dec X k (z :: zs.drop (k + 1))) := by rw [← hdr]; exact HD.out
      clear hdr HD HB
      have hmask := u8_and127 z hz0 (by omega)
      by_cases h9 : k = 9
      · subst h9
        by_cases h1 : 1 < z
        · have HV : Hid (dec 0 0 zs = (0, 0, 2)) := HE.out.trans (dec_form _ _ _ _ rfl h1)
          clear HE
          go_wp2
          go_ret3
          exact ⟨ret_dec HV.out, rfl⟩
        · have HV : Hid (dec 0 0 zs = (bits .or .u64 X (z % 128 * 9223372036854775808), 10, 0)) := HE.out.trans (dec_nine _ _ _ hz0 h1)
          clear HE
          go_wp2
          go_ret3
          exact ⟨ret_dec HV.out, rfl⟩
      · by_cases h1 : z < 128
        · have HV : Hid (dec 0 0 zs = (bits .or .u64 X (IntKind.u64.wrap (z % 128 * 2 ^ (7 * k))), (k : Int) + 1, 0)) := HE.out.trans (dec_end _ _ _ _ (by omega) h1)
          clear HE
          go_wp2
          go_ret3
          exact ⟨ret_dec HV.out, rfl⟩
        · have HV : Hid (dec 0 0 zs = dec (bits .or .u64 X (IntKind.u64.wrap (z % 128 * 2 ^ (7 * k)))) (k + 1) (zs.drop (k + 1))) := HE.out.trans (dec_on _ _ _ _ (by omega) (by omega))
          clear HE
          go_wp2
          go_round
          case rel => exact ⟨k + 1, _, by omega, by omega, by go_num, rfl, HV.out⟩
          case measure => simp [intOf]; omega
    · have HV : Hid (dec 0 0 zs = (0, 0, 5)) := by
        refine (?_ : dec 0 0 zs = (0, 0, 5))
        rw [HD.out, List.drop_eq_nil_of_le (by have := HB.out.1; omega)]; rfl
      clear HD HB
      go_wp2
      go_ret3
      exact ⟨ret_dec HV.out, rfl⟩
end Go.Proofs.YtjhohkfknjehjaaGreatDoor
namespace Go.Proofs.YtjhohkfknjehjaaGreatDoor
set_option linter.unusedVariables false
open Go.ChangeShapes Go.WideShapes Go.ChangeAt Go.RowKit

/-- the number of bytes, the lowest first -/
def low : List Int → Int
  | [] => 0
  | z :: zs => z + 256 * low zs
theorem low_snoc (l : List Int) (z : Int) : low (l ++ [z]) = low l + z * 2 ^ (8 * l.length) := by
  induction l with
  | nil => simp [low]
  | cons a l ih =>
    simp only [List.cons_append, low, ih, List.length_cons]
    rw [show 8 * (l.length + 1) = 8 * l.length + 8 by omega, Int.pow_add]
    rw [Int.mul_add, show z * (2 ^ (8 * l.length) * 2 ^ 8) = 256 * (z * 2 ^ (8 * l.length)) by
      rw [show (2 : Int) ^ 8 = 256 by decide, ← Int.mul_assoc, Int.mul_comm _ 256]]
    omega
theorem low_bd (l : List Int) (h : ∀ z ∈ l, 0 ≤ z ∧ z ≤ 255) : 0 ≤ low l ∧ low l < 2 ^ (8 * l.length) := by
  induction l with
  | nil => simp [low]
  | cons a l ih =>
    have h1 := ih (fun z hz => h z (List.mem_cons_of_mem _ hz))
    have h2 := h a List.mem_cons_self
    simp only [low, List.length_cons]
    rw [show 8 * (l.length + 1) = 8 * l.length + 8 by omega, Int.pow_add, show (2 : Int) ^ 8 = 256 by decide]
    omega
theorem low_step (l : List Int) (z : Int) (h : ∀ z ∈ l, 0 ≤ z ∧ z ≤ 255) (h8 : l.length ≤ 7) (h0 : 0 ≤ z) (h1 : z ≤ 255) :
    bits .or .u64 (low l) (IntKind.u64.wrap (z * 2 ^ (8 * l.length))) = low (l ++ [z]) := by
  have hb := low_bd l h
  rw [low_snoc]
  have hp : (0 : Int) < 2 ^ (8 * l.length) := Int.pow_pos (by decide)
  have hu : z * 2 ^ (8 * l.length) < 2 ^ 64 := by
    have e : (2 : Int) ^ 64 = 2 ^ (8 * (7 - l.length)) * 256 * 2 ^ (8 * l.length) := by
      rw [show (256 : Int) = 2 ^ 8 by decide, ← Int.pow_add, ← Int.pow_add]; congr 1; omega
    rw [e]
    apply Int.mul_lt_mul_of_pos_right _ hp
    have : (0 : Int) < 2 ^ (8 * (7 - l.length)) := Int.pow_pos (by decide)
    omega
  have hl : low l < 2 ^ 64 := by
    refine Int.lt_of_lt_of_le hb.2 ?_
    have : 2 ^ (8 * l.length) ≤ 2 ^ 64 := Nat.pow_le_pow_right (by decide) (by omega)
    exact_mod_cast this
  have hnn : 0 ≤ z * 2 ^ (8 * l.length) := Int.mul_nonneg h0 (Int.le_of_lt hp)
  rw [wraps_u64 _ hnn hu]
  exact bits_join_low .u64 64 (by decide) wraps_u64 (8 * l.length) _ _ hb.1 hb.2 hl hnn (Int.mul_emod_left _ _) hu

theorem take_snoc_at {zs : List Int} {k : Nat} {z : Int} (h : zs[k]? = some z) : zs.take (k + 1) = zs.take k ++ [z] := by
  rw [List.take_add_one, h]; rfl
theorem low_round {w : World} {a : Option Addr} {len : Nat} {zs : List Int} (hB : IsB w a len zs) {k : Nat} {z : Int} (hk : k < len) (h7 : k ≤ 7) (h : zs[k]? = some z) (h0 : 0 ≤ z) (h1 : z ≤ 255) :
    bits .or .u64 (low (zs.take k)) (IntKind.u64.wrap (z * 2 ^ (8 * k))) = low (zs.take (k + 1)) := by
  have hl : (zs.take k).length = k := by have := hB.1; simp; omega
  have hm : ∀ x ∈ zs.take k, 0 ≤ x ∧ x ≤ 255 := by
    intro x hx
    obtain ⟨_, _, rfl | ⟨b, off, _, hh⟩⟩ := hB
    · simp at hx
    · exact hh.2 x (List.mem_of_mem_take hx)
  rw [take_snoc_at h]
  have := low_step (zs.take k) z hm (by omega) h0 h1
  rw [hl] at this
  exact this
theorem isB_take {w : World} {a : Option Addr} {len : Nat} {zs : List Int} (hB : IsB w a len zs) (k : Nat) (hk : k ≤ len) : IsB w a k (zs.take k) := by
  obtain ⟨h1, h2, h3⟩ := hB
  refine ⟨by simp; omega, by omega, ?_⟩
  rcases h3 with rfl | ⟨b, off, rfl, hh⟩
  · exact .inl (by simp)
  · refine .inr ⟨b, off, rfl, ?_, ?_⟩
    · intro j z hj
      refine hh.1 j z ?_
      rw [List.getElem?_take] at hj
      split at hj
      · exact hj
      · simp at hj
    · intro z hz
      exact hh.2 z (List.mem_of_mem_take hz)

theorem low4_bd {w : World} {a : Option Addr} {len : Nat} {zs : List Int} (hB : IsB w a len zs) (hl : 4 ≤ len) : 0 ≤ low (zs.take 4) ∧ low (zs.take 4) ≤ 4294967295 := by
  obtain ⟨h1, h2, h3⟩ := isB_take hB 4 hl
  have h4 : ∀ z ∈ zs.take 4, 0 ≤ z ∧ z ≤ 255 := by
    rcases h3 with h3 | ⟨b, off, _, hh⟩
    · rw [h3]; simp
    · exact hh.2
  have := low_bd _ h4
  rw [h1] at this
  omega

set_option maxHeartbeats 1000000 in
theorem fixed_any (a : Option Addr) (len cap : Nat) (zs : List Int) (s : Nat) (w : World) (hB : IsB w a len zs) (hs : s ≤ 8) (hl : s ≤ len) :
    Calls Tryz.prog 108 #[.slice a len cap, .int .i64 s] w fun e w' =>
      e = .returned (.tuple #[.int .u64 (low (zs.take s)), .int .i64 0]) ∧ w' = w := by
  have hmax : len ≤ 281474976710656 := hB.2.1
  have HB : Hid (IsB w a len zs) := hB
  clear hB
  go_enter Tryz.func108, Tryz.ntmps108
  go_wp2
  go_loop [6, 13] (fun x i => ∃ (k : Nat), k ≤ s ∧ i = .int .i64 k ∧ x = .int .u64 (low (zs.take k))) (fun _ i => s - (intOf i).toNat)
  case atStart => exact ⟨0, by omega, rfl, rfl⟩
  case round =>
    obtain ⟨k, hk, rfl, rfl⟩ := hrel
    by_cases hlt : k < s
    · obtain ⟨b, off, z, rfl, hcell, hz0, hz1, _, hat⟩ := isB_at HB.out (show k < len by omega)
      have HR : Hid _ := low_round HB.out (show k < len by omega) (by omega) hat hz0 hz1
      clear hat HB
      generalize low (zs.take k) = X at *
      go_wp2
      go_round
      case rel => exact ⟨k + 1, by omega, by go_num, by rw [← HR.out]⟩
      case measure => simp [intOf]; omega
    · obtain rfl : k = s := by omega
      go_wp2
      go_ret2
      exact ⟨rfl, rfl⟩
set_option maxHeartbeats 1000000 in
theorem fixed_none (a : Option Addr) (len cap : Nat) (s : Nat) (w : World) (hl : ¬ s ≤ len) :
    Calls Tryz.prog 108 #[.slice a len cap, .int .i64 s] w fun e w' =>
      e = .returned (.tuple #[.int .u64 0, .int .i64 5]) ∧ w' = w := by
  go_enter Tryz.func108, Tryz.ntmps108
  go_wp2
  go_ret2
  exact ⟨rfl, rfl⟩
set_option maxHeartbeats 1000000 in
theorem take32_any (a : Option Addr) (len cap : Nat) (zs : List Int) (w : World) (hB : IsB w a len zs) (hl : 4 ≤ len) :
    Calls Tryz.prog 101 #[.slice a len cap] w fun e w' =>
      e = .returned (.tuple #[.int .u32 (low (zs.take 4)), .int .i64 0]) ∧ w' = w := by
  have hr := low4_bd hB hl
  have HB : Hid (IsB w a len zs) := hB
  clear hB
  go_enter Tryz.func101, Tryz.ntmps101
  go_wp2_with fail
  refine (fixed_any _ _ _ zs 4 _ HB.out (by omega) hl).mono ?_
  rintro e w' ⟨rfl, rfl⟩
  go_wp2_with fail
  go_ret2
  exact ⟨rfl, rfl⟩
set_option maxHeartbeats 1000000 in
theorem take32_none (a : Option Addr) (len cap : Nat) (w : World) (hl : ¬ 4 ≤ len) :
    Calls Tryz.prog 101 #[.slice a len cap] w fun e w' =>
      e = .returned (.tuple #[.int .u32 0, .int .i64 5]) ∧ w' = w := by
  go_enter Tryz.func101, Tryz.ntmps101
  go_wp2_with fail
  refine (fixed_none _ _ _ 4 _ hl).mono ?_
  rintro e w' ⟨rfl, rfl⟩
  go_wp2_with fail
  go_ret2
  exact ⟨rfl, rfl⟩
set_option maxHeartbeats 1000000 in
theorem take64_any (a : Option Addr) (len cap : Nat) (zs : List Int) (w : World) (hB : IsB w a len zs) (hl : 8 ≤ len) :
    Calls Tryz.prog 100 #[.slice a len cap] w fun e w' =>
      e = .returned (.tuple #[.int .u64 (low (zs.take 8)), .int .i64 0]) ∧ w' = w := by
  have HB : Hid (IsB w a len zs) := hB
  clear hB
  go_enter Tryz.func100, Tryz.ntmps100
  go_wp2_with fail
  refine (fixed_any _ _ _ zs 8 _ HB.out (by omega) hl).mono ?_
  rintro e w' ⟨rfl, rfl⟩
  go_wp2_with fail
  go_ret2
  exact ⟨rfl, rfl⟩
set_option maxHeartbeats 1000000 in
theorem take64_none (a : Option Addr) (len cap : Nat) (w : World) (hl : ¬ 8 ≤ len) :
    Calls Tryz.prog 100 #[.slice a len cap] w fun e w' =>
      e = .returned (.tuple #[.int .u64 0, .int .i64 5]) ∧ w' = w := by
  go_enter Tryz.func100, Tryz.ntmps100
  go_wp2_with fail
  refine (fixed_none _ _ _ 8 _ hl).mono ?_
  rintro e w' ⟨rfl, rfl⟩
  go_wp2_with fail
  go_ret2
  exact ⟨rfl, rfl⟩
end Go.Proofs.YtjhohkfknjehjaaGreatDoor
namespace Go.Proofs.YtjhohkfknjehjaaGreatDoor
set_option linter.unusedVariables false
open Go.ChangeShapes Go.WideShapes Go.ChangeAt Go.RowKit
set_option maxHeartbeats 1000000 in
theorem number_any (a : Option Addr) (len cap : Nat) (zs : List Int) (w : World) (hB : IsB w a len zs) (hl : len ≤ 8) :
    Calls Tryz.prog 95 #[.slice a len cap] w fun e w' => e = .returned (.int .u64 (low zs)) ∧ w' = w := by
  have HB : Hid (IsB w a len zs) := hB
  clear hB
  go_enter Tryz.func95, Tryz.ntmps95
  go_wp2
  go_loop [3, 7] (fun x i => ∃ (k : Nat), k ≤ len ∧ i = .int .i64 k ∧ x = .int .u64 (low (zs.take k))) (fun _ i => len - (intOf i).toNat)
  case atStart => exact ⟨0, by omega, rfl, rfl⟩
  case round =>
    obtain ⟨k, hk, rfl, rfl⟩ := hrel
    by_cases hlt : k < len
    · obtain ⟨b, off, z, rfl, hcell, hz0, hz1, _, hat⟩ := isB_at HB.out hlt
      have HR : Hid _ := low_round HB.out hlt (by omega) hat hz0 hz1
      clear hat HB
      generalize low (zs.take k) = X at *
      go_wp2
      go_round
      case rel => exact ⟨k + 1, by omega, by go_num, by rw [← HR.out]⟩
      case measure => simp [intOf]; omega
    · have HE : Hid (low (zs.take k) = low zs) := by
        refine (?_ : low (zs.take k) = low zs)
        rw [List.take_of_length_le (by have := HB.out.1; omega)]
      clear HB
      go_wp2
      go_ret
      exact ⟨ret_int HE.out, rfl⟩
end Go.Proofs.YtjhohkfknjehjaaGreatDoor
namespace Go.Proofs.YtjhohkfknjehjaaGreatDoor
set_option linter.unusedVariables false
open Go.ChangeShapes Go.WideShapes Go.ChangeAt Go.RowKit

/-- the world with one new block, the bytes l -/
def blk (w : World) (t : TypeId) (l : List Int) : World := w.alloc (.cells (l.map (Value.int .u8)).toArray t)

theorem cell_ltB {w : World} {b o : Nat} {v : Value} (h : w.cell? ⟨b, o, none⟩ = some v) : b < w.heap.size := by
  by_cases hb : b < w.heap.size
  · exact hb
  · simp [World.cell?, Array.getElem?_eq_none (Nat.le_of_not_lt hb)] at h
theorem held_old {w w' : World} {b off : Nat} {zs : List Int} (h : Held w b off zs) (hb : Below w.heap.size w w') : Held w' b off zs :=
  ⟨fun j z hj => by have hc := h.1 j z hj; rw [hb.cell (cell_ltB hc)]; exact hc, h.2⟩
theorem isB_old {w w' : World} {a : Option Addr} {len : Nat} {zs : List Int} (h : IsB w a len zs) (hb : Below w.heap.size w w') : IsB w' a len zs := by
  obtain ⟨h1, h2, h3⟩ := h
  refine ⟨h1, h2, ?_⟩
  rcases h3 with h3 | ⟨b, off, ha, hh⟩
  · exact .inl h3
  · exact .inr ⟨b, off, ha, held_old hh hb⟩
theorem isB_bytes {w : World} {a : Option Addr} {len : Nat} {zs : List Int} (h : IsB w a len zs) : ∀ z ∈ zs, 0 ≤ z ∧ z ≤ 255 := by
  obtain ⟨_, _, rfl | ⟨b, off, _, hh⟩⟩ := h
  · simp
  · exact hh.2
theorem add_off (b o j : Nat) : (⟨b, o, none⟩ : Addr).add j = ⟨b, o + j, none⟩ := by unfold Addr.add; split <;> simp_all
end Go.Proofs.YtjhohkfknjehjaaGreatDoor
namespace Go.Proofs.YtjhohkfknjehjaaGreatDoor
set_option linter.unusedVariables false
open Go.ChangeShapes Go.WideShapes Go.ChangeAt Go.RowKit
theorem info5B : (Tryz.prog.info? 5).map (fun i => (i.zero, i.size, i.bytes)) = some (some (.int .u8 0), 1, 1) := by kernel_rfl

end Go.Proofs.YtjhohkfknjehjaaGreatDoor
