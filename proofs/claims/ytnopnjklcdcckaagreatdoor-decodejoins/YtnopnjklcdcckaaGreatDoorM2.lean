/-
  The walks over the functions that take fixed numbers (Take32, Take64, and the document's Number): of bytes that are long enough the number whose bytes they are, the lowest first; of fewer bytes none. No condition but that a slice has its elements in memory.
  Plain words on a new block of bytes in memory, and what a row of bytes is worth behind later changes. Nothing is proved of the program here.
  The walk over the program's inner function that copies a slice into new memory with some more room: one new block comes, the bytes and so many zeroes; nothing else changes.
  A law of append at slices of bytes, in the words of this seat: what was owned is owned with the new bytes behind it; nothing that was there before the call has turned. Nothing is proved of the program here.
  The walks over the document's own Formed and Same: whether a field is one, and whether two fields are alike. They make new memory alone.
  The walk over the document's own TakeField: of any bytes the field that stands at their beginning, or an error; it makes new memory alone.
-/
import Derived.Test.YtnopnjklcdcckaaGreatDoorRows
import Derived.Test.YtnopnjklcdcckaaGreatDoorM1
import Derived.Laws.MakeOwn
import Derived.Laws.CopyRow
import Derived.Laws.CopyOwn
import Derived.Laws.IdiomCopy
import Derived.Laws.AppendOwn
import Derived.Laws.AppendOwnNone
import Derived.OwnWalk
import Derived.ArgAppend
import Derived.Laws.BytesArg
import Derived.Laws.BytesString
import Derived.Laws.Concat
import Derived.Laws.Strings
import Derived.Deep.RegionLaw
namespace Go.Proofs.YtnopnjklcdcckaaGreatDoor
set_option linter.unusedVariables false
open Go.ChangeShapes Go.WideShapes Go.ChangeAt Go.RowKit

/-- the number of bytes, the lowest first -/
def low : List Int → Int
  | [] => 0
  | z :: zs => z + 256 * low zs
theorem low_snoc (l : List Int) (z : Int) : low (l ++ [z]) = low l + z * 2 ^ (8 * l.length) := by
  induction l with
  | nil => simp [low]
  | cons a l ih =>
    simp only [List.cons_append, low, ih, List.length_cons]
    rw [show 8 * (l.length + 1) = 8 * l.length + 8 by omega, Int.pow_add]
    rw [Int.mul_add, show z * (2 ^ (8 * l.length) * 2 ^ 8) = 256 * (z * 2 ^ (8 * l.length)) by
      rw [show (2 : Int) ^ 8 = 256 by decide, ← Int.mul_assoc, Int.mul_comm _ 256]]
    omega
theorem low_bd (l : List Int) (h : ∀ z ∈ l, 0 ≤ z ∧ z ≤ 255) : 0 ≤ low l ∧ low l < 2 ^ (8 * l.length) := by
  induction l with
  | nil => simp [low]
  | cons a l ih =>
    have h1 := ih (fun z hz => h z (List.mem_cons_of_mem _ hz))
    have h2 := h a List.mem_cons_self
    simp only [low, List.length_cons]
    rw [show 8 * (l.length + 1) = 8 * l.length + 8 by omega, Int.pow_add, show (2 : Int) ^ 8 = 256 by decide]
    omega
theorem low_step (l : List Int) (z : Int) (h : ∀ z ∈ l, 0 ≤ z ∧ z ≤ 255) (h8 : l.length ≤ 7) (h0 : 0 ≤ z) (h1 : z ≤ 255) :
    bits .or .u64 (low l) (IntKind.u64.wrap (z * 2 ^ (8 * l.length))) = low (l ++ [z]) := by
  have hb := low_bd l h
  rw [low_snoc]
  have hp : (0 : Int) < 2 ^ (8 * l.length) := Int.pow_pos (by decide)
  have hu : z * 2 ^ (8 * l.length) < 2 ^ 64 := by
    have e : (2 : Int) ^ 64 = 2 ^ (8 * (7 - l.length)) * 256 * 2 ^ (8 * l.length) := by
      rw [show (256 : Int) = 2 ^ 8 by decide, ← Int.pow_add, ← Int.pow_add]; congr 1; omega
    rw [e]
    apply Int.mul_lt_mul_of_pos_right _ hp
    have : (0 : Int) < 2 ^ (8 * (7 - l.length)) := Int.pow_pos (by decide)
    omega
  have hl : low l < 2 ^ 64 := by
    refine Int.lt_of_lt_of_le hb.2 ?_
    have : 2 ^ (8 * l.length) ≤ 2 ^ 64 := Nat.pow_le_pow_right (by decide) (by omega)
    exact_mod_cast this
  have hnn : 0 ≤ z * 2 ^ (8 * l.length) := Int.mul_nonneg h0 (Int.le_of_lt hp)
  rw [wraps_u64 _ hnn hu]
  exact bits_join_low .u64 64 (by decide) wraps_u64 (8 * l.length) _ _ hb.1 hb.2 hl hnn (Int.mul_emod_left _ _) hu

theorem take_snoc_at {zs : List Int} {k : Nat} {z : Int} (h : zs[k]? = some z) : zs.take (k + 1) = zs.take k ++ [z] := by
  rw [List.take_add_one, h]; rfl
theorem low_round {w : World} {a : Option Addr} {len : Nat} {zs : List Int} (hB : IsB w a len zs) {k : Nat} {z : Int} (hk : k < len) (h7 : k ≤ 7) (h : zs[k]? = some z) (h0 : 0 ≤ z) (h1 : z ≤ 255) :
    bits .or .u64 (low (zs.take k)) (IntKind.u64.wrap (z * 2 ^ (8 * k))) = low (zs.take (k + 1)) := by
  have hl : (zs.take k).length = k := by have := hB.1; simp; omega
  have hm : ∀ x ∈ zs.take k, 0 ≤ x ∧ x ≤ 255 := by
    intro x hx
    obtain ⟨_, _, rfl | ⟨b, off, _, hh⟩⟩ := hB
    · simp at hx
    · exact hh.2 x (List.mem_of_mem_take hx)
  rw [take_snoc_at h]
  have := low_step (zs.take k) z hm (by omega) h0 h1
  rw [hl] at this
  exact this
theorem isB_take {w : World} {a : Option Addr} {len : Nat} {zs : List Int} (hB : IsB w a len zs) (k : Nat) (hk : k ≤ len) : IsB w a k (zs.take k) := by
  obtain ⟨h1, h2, h3⟩ := hB
  refine ⟨by simp; omega, by omega, ?_⟩
  rcases h3 with rfl | ⟨b, off, rfl, hh⟩
  · exact .inl (by simp)
  · refine .inr ⟨b, off, rfl, ?_, ?_⟩
    · intro j z hj
      refine hh.1 j z ?_
      rw [List.getElem?_take] at hj
      split at hj
      · exact hj
      · simp at hj
    · intro z hz
      exact hh.2 z (List.mem_of_mem_take hz)

theorem low4_bd {w : World} {a : Option Addr} {len : Nat} {zs : List Int} (hB : IsB w a len zs) (hl : 4 ≤ len) : 0 ≤ low (zs.take 4) ∧ low (zs.take 4) ≤ 4294967295 := by
  obtain ⟨h1, h2, h3⟩ := isB_take hB 4 hl
  have h4 : ∀ z ∈ zs.take 4, 0 ≤ z ∧ z ≤ 255 := by
    rcases h3 with h3 | ⟨b, off, _, hh⟩
    · rw [h3]; simp
    · exact hh.2
  have := low_bd _ h4
  rw [h1] at this
  omega

set_option maxHeartbeats 1000000 in
theorem fixed_any (a : Option Addr) (len cap : Nat) (zs : List Int) (s : Nat) (w : World) (hB : IsB w a len zs) (hs : s ≤ 8) (hl : s ≤ len) :
    Calls Tryz.prog 121 #[.slice a len cap, .int .i64 s] w fun e w' =>
      e = .returned (.tuple #[.int .u64 (low (zs.take s)), .int .i64 0]) ∧ w' = w := by
  have hmax : len ≤ 281474976710656 := hB.2.1
  have HB : Hid (IsB w a len zs) := hB
  clear hB
  go_enter Tryz.func121, Tryz.ntmps121
  go_wp2
  go_loop [6, 13] (fun x i => ∃ (k : Nat), k ≤ s ∧ i = .int .i64 k ∧ x = .int .u64 (low (zs.take k))) (fun _ i => s - (intOf i).toNat)
  case atStart => exact ⟨0, by omega, rfl, rfl⟩
  case round =>
    obtain ⟨k, hk, rfl, rfl⟩ := hrel
    by_cases hlt : k < s
    · obtain ⟨b, off, z, rfl, hcell, hz0, hz1, _, hat⟩ := isB_at HB.out (show k < len by omega)
      have HR : Hid _ := low_round HB.out (show k < len by omega) (by omega) hat hz0 hz1
      clear hat HB
      generalize low (zs.take k) = X at *
      go_wp2
      go_round
      case rel => exact ⟨k + 1, by omega, by go_num, by rw [← HR.out]⟩
      case measure => simp [intOf]; omega
    · obtain rfl : k = s := by omega
      go_wp2
      go_ret2
      exact ⟨rfl, rfl⟩
set_option maxHeartbeats 1000000 in
theorem fixed_none (a : Option Addr) (len cap : Nat) (s : Nat) (w : World) (hl : ¬ s ≤ len) :
    Calls Tryz.prog 121 #[.slice a len cap, .int .i64 s] w fun e w' =>
      e = .returned (.tuple #[.int .u64 0, .int .i64 5]) ∧ w' = w := by
  go_enter Tryz.func121, Tryz.ntmps121
  go_wp2
  go_ret2
  exact ⟨rfl, rfl⟩
set_option maxHeartbeats 1000000 in
theorem take32_any (a : Option Addr) (len cap : Nat) (zs : List Int) (w : World) (hB : IsB w a len zs) (hl : 4 ≤ len) :
    Calls Tryz.prog 107 #[.slice a len cap] w fun e w' =>
      e = .returned (.tuple #[.int .u32 (low (zs.take 4)), .int .i64 0]) ∧ w' = w := by
  have hr := low4_bd hB hl
  have HB : Hid (IsB w a len zs) := hB
  clear hB
  go_enter Tryz.func107, Tryz.ntmps107
  go_wp2_with fail
  refine (fixed_any _ _ _ zs 4 _ HB.out (by omega) hl).mono ?_
  rintro e w' ⟨rfl, rfl⟩
  go_wp2_with fail
  go_ret2
  exact ⟨rfl, rfl⟩
set_option maxHeartbeats 1000000 in
theorem take32_none (a : Option Addr) (len cap : Nat) (w : World) (hl : ¬ 4 ≤ len) :
    Calls Tryz.prog 107 #[.slice a len cap] w fun e w' =>
      e = .returned (.tuple #[.int .u32 0, .int .i64 5]) ∧ w' = w := by
  go_enter Tryz.func107, Tryz.ntmps107
  go_wp2_with fail
  refine (fixed_none _ _ _ 4 _ hl).mono ?_
  rintro e w' ⟨rfl, rfl⟩
  go_wp2_with fail
  go_ret2
  exact ⟨rfl, rfl⟩
set_option maxHeartbeats 1000000 in
theorem take64_any (a : Option Addr) (len cap : Nat) (zs : List Int) (w : World) (hB : IsB w a len zs) (hl : 8 ≤ len) :
    Calls Tryz.prog 106 #[.slice a len cap] w fun e w' =>
      e = .returned (.tuple #[.int .u64 (low (zs.take 8)), .int .i64 0]) ∧ w' = w := by
  have HB : Hid (IsB w a len zs) := hB
  clear hB
  go_enter Tryz.func106, Tryz.ntmps106
  go_wp2_with fail
  refine (fixed_any _ _ _ zs 8 _ HB.out (by omega) hl).mono ?_
  rintro e w' ⟨rfl, rfl⟩
  go_wp2_with fail
  go_ret2
  exact ⟨rfl, rfl⟩
set_option maxHeartbeats 1000000 in
theorem take64_none (a : Option Addr) (len cap : Nat) (w : World) (hl : ¬ 8 ≤ len) :
    Calls Tryz.prog 106 #[.slice a len cap] w fun e w' =>
      e = .returned (.tuple #[.int .u64 0, .int .i64 5]) ∧ w' = w := by
  go_enter Tryz.func106, Tryz.ntmps106
  go_wp2_with fail
  refine (fixed_none _ _ _ 8 _ hl).mono ?_
  rintro e w' ⟨rfl, rfl⟩
  go_wp2_with fail
  go_ret2
  exact ⟨rfl, rfl⟩
end Go.Proofs.YtnopnjklcdcckaaGreatDoor
namespace Go.Proofs.YtnopnjklcdcckaaGreatDoor
set_option linter.unusedVariables false
open Go.ChangeShapes Go.WideShapes Go.ChangeAt Go.RowKit

/-- the world with one new block, the bytes l -/
def blk (w : World) (t : TypeId) (l : List Int) : World := w.alloc (.cells (l.map (Value.int .u8)).toArray t)

theorem blk_heap (w : World) (t : TypeId) (l : List Int) : (blk w t l).heap[w.heap.size]? = some (.cells (l.map (Value.int .u8)).toArray t) := by
  show (w.heap.push _)[w.heap.size]? = _
  simp
theorem blk_cell (w : World) (t : TypeId) (l : List Int) {j : Nat} {z : Int} (h : l[j]? = some z) : (blk w t l).cell? ⟨w.heap.size, j, none⟩ = some (.int .u8 z) := by
  simp [World.cell?, blk_heap, h]
theorem blk_frozen (w : World) (t : TypeId) (l : List Int) (j : Nat) : (blk w t l).frozen? ⟨w.heap.size, j, none⟩ = false := by
  simp [World.frozen?, blk_heap]
theorem blk_below (w : World) (t : TypeId) (l : List Int) : Below w.heap.size w (blk w t l) := (Below.refl _ _).alloc (Nat.le_refl _) _
theorem blk_row (w : World) (t : TypeId) (l : List Int) (c : Array Value) : (blk w t l).setRow w.heap.size c = w.alloc (.cells c t) := by
  cases w with
  | mk heap tape drawn os output =>
    show World.mk ((heap.push _).modify heap.size _) tape drawn os output = World.mk (heap.push _) tape drawn os output
    congr 1
    apply Array.ext
    · simp
    · intro k h1 h2
      simp only [Array.getElem_modify, Array.getElem_push]
      by_cases hk : heap.size = k
      · subst hk; simp
      · have hlt : k < heap.size := by simp at h2; omega
        simp [hk, hlt]
theorem blk_set (w : World) (t : TypeId) (l : List Int) (j : Nat) (z : Int) : (blk w t l).setCell ⟨w.heap.size, j, none⟩ (.int .u8 z) = blk w t (l.set j z) := by
  rw [setCell_eq_setRow _ _ _ _ _ _ _ (blk_heap w t l), blk_row]
  unfold blk
  congr 2
  simp [List.map_set]
theorem held_blk (w : World) (t : TypeId) (l : List Int) (h : ∀ z ∈ l, 0 ≤ z ∧ z ≤ 255) : Held (blk w t l) w.heap.size 0 l :=
  ⟨fun j z hj => by rw [Nat.zero_add]; exact blk_cell w t l hj, h⟩
theorem isB_blk (w : World) (t : TypeId) (l : List Int) (h : ∀ z ∈ l, 0 ≤ z ∧ z ≤ 255) (hm : l.length ≤ 281474976710656) : IsB (blk w t l) (some ⟨w.heap.size, 0, none⟩) l.length l :=
  ⟨rfl, hm, .inr ⟨_, _, rfl, held_blk w t l h⟩⟩
theorem cell_ltB {w : World} {b o : Nat} {v : Value} (h : w.cell? ⟨b, o, none⟩ = some v) : b < w.heap.size := by
  by_cases hb : b < w.heap.size
  · exact hb
  · simp [World.cell?, Array.getElem?_eq_none (Nat.le_of_not_lt hb)] at h
theorem held_old {w w' : World} {b off : Nat} {zs : List Int} (h : Held w b off zs) (hb : Below w.heap.size w w') : Held w' b off zs :=
  ⟨fun j z hj => by have hc := h.1 j z hj; rw [hb.cell (cell_ltB hc)]; exact hc, h.2⟩
theorem isB_old {w w' : World} {a : Option Addr} {len : Nat} {zs : List Int} (h : IsB w a len zs) (hb : Below w.heap.size w w') : IsB w' a len zs := by
  obtain ⟨h1, h2, h3⟩ := h
  refine ⟨h1, h2, ?_⟩
  rcases h3 with h3 | ⟨b, off, ha, hh⟩
  · exact .inl h3
  · exact .inr ⟨b, off, ha, held_old hh hb⟩
theorem isB_bytes {w : World} {a : Option Addr} {len : Nat} {zs : List Int} (h : IsB w a len zs) : ∀ z ∈ zs, 0 ≤ z ∧ z ≤ 255 := by
  obtain ⟨_, _, rfl | ⟨b, off, _, hh⟩⟩ := h
  · simp
  · exact hh.2
theorem add_off (b o j : Nat) : (⟨b, o, none⟩ : Addr).add j = ⟨b, o + j, none⟩ := by unfold Addr.add; split <;> simp_all
end Go.Proofs.YtnopnjklcdcckaaGreatDoor
namespace Go.Proofs.YtnopnjklcdcckaaGreatDoor
set_option linter.unusedVariables false
open Go.ChangeShapes Go.WideShapes Go.ChangeAt Go.RowKit
theorem info5B : (Tryz.prog.info? 5).map (fun i => (i.zero, i.size, i.bytes)) = some (some (.int .u8 0), 1, 1) := by kernel_rfl

theorem made_u8 (n : Nat) : madeCells (Value.int .u8 0).cells n = ((List.replicate n (0 : Int)).map (Value.int .u8)).toArray := by
  apply Array.ext
  · simp [madeCells]
  · intro i h1 h2
    simp [madeCells, Value.cells, Nat.mod_one]
theorem grown_arith (l : List Int) (n : Nat) : ((List.replicate (l.length + n) (0 : Int)).map (Value.int .u8)).toArray.toList.take 0 ++ l.map (Value.int .u8) ++ ((List.replicate (l.length + n) (0 : Int)).map (Value.int .u8)).toArray.toList.drop (0 + (l.map (Value.int .u8)).length) = (l ++ List.replicate n 0).map (Value.int .u8) := by
  simp [List.drop_replicate]

theorem run_make_u8 (w : World) (l n : Nat) (hl : l ≤ n) (h : n ≤ 281474976710656) :
    (Instr.makeSlice 27 (.int .i64 (l : Int)) (.int .i64 (n : Int))).run Tryz.prog w = .ok (.slice (some ⟨w.heap.size, 0, none⟩) l n) (blk w 5 (List.replicate n 0)) := by
  obtain ⟨i0, hi, hz0, hz1, hz2⟩ := info_parts info5B
  have := run_make (P := Tryz.prog) w 27 5 i0 (.int .u8 0) Tryz.underlying27 hi hz0 .i64 .i64 l n (by omega) (by omega) (by rw [hz2]; omega) (by omega)
  rw [this]
  simp only [Int.toNat_natCast, hz1, Nat.mul_one]
  rw [made_u8]; rfl

theorem run_copy_u8 (w : World) (a : Option Addr) (len cap : Nat) (zs : List Int) (n dl dc : Nat) (ty : TypeId) (hB : IsB w a len zs) (hd : len ≤ dl) :
    (Builtin.copy_ #[27, 27] ty #[.slice (some ⟨w.heap.size, 0, none⟩) dl dc, .slice a len cap]).run Tryz.prog (blk w 5 (List.replicate (len + n) 0)) =
      .ok (goInt len) (blk w 5 (zs ++ List.replicate n 0)) := by
  have hs : (Tryz.prog.info? 5).map (·.size) = some 1 := by
    obtain ⟨i0, hi, hz0, hz1, hz2⟩ := info_parts info5B
    rw [hi]; simp [hz1]
  obtain ⟨h1, h2, h3⟩ := isB_old hB (blk_below w 5 (List.replicate (len + n) 0))
  by_cases h0 : len = 0
  · subst h0
    have hz : zs = [] := by simpa using h1
    subst hz
    have := run_copy_none (P := Tryz.prog) (blk w 5 (List.replicate (0 + n) 0)) 27 27 ty 5 (some ⟨w.heap.size, 0, none⟩) a dl dc 0 cap Tryz.underlying27 hs (by simp)
    rw [this]
    simp
  · rcases h3 with h3 | ⟨b, off, rfl, hh⟩
    · subst h3; simp at h1; omega
    · subst h1
      have := run_copy_row Tryz.prog (blk w 5 (List.replicate (zs.length + n) 0)) 27 27 ty 5 w.heap.size 0 dl dc ⟨b, off, none⟩ zs.length cap
        ((List.replicate (zs.length + n) (0 : Int)).map (Value.int .u8)).toArray 5 (zs.map (Value.int .u8)) Tryz.underlying27 hs (blk_heap w 5 _)
        (by rw [List.length_map]; exact (Nat.min_eq_left hd).symm) (by
          intro j v hj
          rw [List.getElem?_map] at hj
          cases hq : zs[j]? with
          | none => rw [hq] at hj; simp at hj
          | some z =>
            rw [hq] at hj
            simp at hj
            subst hj
            rw [add_off]; exact hh.1 j z hq) (by simp) (by intro v hv; simp at hv; obtain ⟨z, _, rfl⟩ := hv; rfl)
      rw [this, grown_arith, blk_row]
      simp [blk]
set_option maxHeartbeats 1000000 in
theorem grown_any (a : Option Addr) (len cap : Nat) (zs : List Int) (n : Nat) (w : World) (hB : IsB w a len zs) (hn : len + n ≤ 281474976710656) :
    Calls Tryz.prog 112 #[.slice a len cap, .int .i64 n] w fun e w' =>
      e = .returned (.slice (some ⟨w.heap.size, 0, none⟩) (len + n) (len + n)) ∧ w' = blk w 5 (zs ++ List.replicate n 0) := by
  have hm := run_make_u8 w (len + n) (len + n) (Nat.le_refl _) hn
  have hc := fun ty => run_copy_u8 w a len cap zs n (len + n) (len + n) ty hB (by omega)
  have hmax : len ≤ 281474976710656 := hB.2.1
  clear hB
  rw [Int.natCast_add] at hm
  go_enter Tryz.func112, Tryz.ntmps112
  go_wp2
  go_ret
  exact ⟨rfl, rfl⟩
end Go.Proofs.YtnopnjklcdcckaaGreatDoor
namespace Go.Proofs.YtnopnjklcdcckaaGreatDoor
set_option linter.unusedVariables false
open Go.ChangeShapes Go.WideShapes Go.ChangeAt Go.RowKit

/-- a slice of bytes that the call itself has made (its block's number is base or more): xs -/
def OwnB (w : World) (base : Nat) (v : Value) (xs : List Int) : Prop := w.ownsRow base 5 1 v xs.length (xs.map (Value.int .u8))

theorem own_isB {w : World} {base : Nat} {v : Value} {xs : List Int} (h : OwnB w base v xs) (hb : ∀ z ∈ xs, 0 ≤ z ∧ z ≤ 255) (hm : xs.length ≤ 281474976710656) :
    ∃ a c, v = .slice a xs.length c ∧ IsB w a xs.length xs ∧ xs.length ≤ c ∧ (a = none → xs.length = 0 ∧ c = 0) := by
  obtain ⟨_, h2⟩ := h
  rcases h2 with ⟨rfl, h0⟩ | ⟨g, cap, cur, rfl, hg, hh, h3, h4, h5, h6⟩
  · have hx : xs = [] := List.eq_nil_of_length_eq_zero h0
    subst hx
    exact ⟨none, 0, rfl, ⟨rfl, by simp, .inl rfl⟩, Nat.le_refl _, fun _ => ⟨rfl, rfl⟩⟩
  · refine ⟨_, cap, rfl, ⟨rfl, hm, .inr ⟨g, 0, rfl, ?_, hb⟩⟩, h3, fun h => by simp at h⟩
    intro j z hj
    have hjl : j < xs.length := by
      by_cases hjl : j < xs.length
      · exact hjl
      · rw [List.getElem?_eq_none (by omega)] at hj; simp at hj
    have e : cur.toList[j]? = some (.int .u8 z) := by
      have : (cur.toList.take (xs.length * 1))[j]? = (xs.map (Value.int .u8))[j]? := by rw [h6]
      rw [List.getElem?_take, if_pos (by omega), List.getElem?_map, hj] at this
      simpa using this
    rw [Nat.zero_add]
    simp only [World.cell?, hh]
    simpa using e
theorem isB_cells {w : World} {ad : Addr} {m : Nat} {zs : List Int} (h : IsB w (some ad) m zs) : ∀ j u, (zs.map (Value.int .u8))[j]? = some u → w.cell? (ad.add j) = some u := by
  intro j u hj
  rw [List.getElem?_map] at hj
  obtain ⟨_, _, rfl | ⟨b, off, hab, hh⟩⟩ := h
  · simp at hj
  · cases hq : zs[j]? with
    | none => rw [hq] at hj; simp at hj
    | some z =>
      rw [hq] at hj
      simp at hj
      subst hj
      cases hab
      rw [add_off]; exact hh.1 j z hq
theorem own_blockB {w : World} {base : Nat} {v : Value} {xs : List Int} (h : OwnB w base v xs) : ∀ k, v.ownBlock = some k → base ≤ k := by
  intro k hk
  obtain ⟨_, ⟨rfl, _⟩ | ⟨g, cap, cur, rfl, hg, _⟩⟩ := h
  · simp [Value.ownBlock] at hk
  · simp [Value.ownBlock] at hk; omega
theorem own_blk (w : World) (l : List Int) (hm : l.length ≤ maxLen) : OwnB (blk w 5 l) w.heap.size (.slice (some ⟨w.heap.size, 0, none⟩) l.length l.length) l :=
  ⟨by simp, .inr ⟨_, _, _, rfl, Nat.le_refl _, blk_heap w 5 l, Nat.le_refl _, hm, by simp, by simpa using List.take_of_length_le (by simp)⟩⟩

/-- owned, or an empty slice with no room -/
def OwnE (w : World) (base : Nat) (v : Value) (xs : List Int) : Prop := OwnB w base v xs ∨ (xs = [] ∧ ∃ g, v = .slice (some ⟨g, 0, none⟩) 0 0)

theorem own_mono {w : World} {base base' : Nat} {v : Value} {xs : List Int} (h : OwnB w base v xs) (hb : base' ≤ base) : OwnB w base' v xs := by
  obtain ⟨h1, h2 | ⟨g, cap, cur, hv, hg, r⟩⟩ := h
  · exact ⟨h1, .inl h2⟩
  · exact ⟨h1, .inr ⟨g, cap, cur, hv, by omega, r⟩⟩
theorem own_old {w w' : World} {base : Nat} {v : Value} {xs : List Int} (h : OwnB w base v xs) (hb : Below w.heap.size w w') : OwnB w' base v xs := by
  obtain ⟨h1, h2 | ⟨g, cap, cur, hv, hg, hh, r⟩⟩ := h
  · exact ⟨h1, .inl h2⟩
  · exact ⟨h1, .inr ⟨g, cap, cur, hv, hg, by rw [hb.block g (Array.getElem?_eq_some_iff.1 hh).1]; exact hh, r⟩⟩
theorem own_nil (w : World) (base : Nat) : OwnB w base (.slice none 0 0) [] := World.ownsRow_nil _ _ _ _
theorem runE_append (w : World) (ty : TypeId) (base : Nat) (v : Value) (xs : List Int) (hown : OwnE w base v xs)
    (ao : Option Addr) (m c : Nat) (zs : List Int) (hB : IsB w ao m zs) (hno : ao = none → m = 0 ∧ c = 0)
    (hbd : xs.length + m ≤ 140737488355328) (hbase : base ≤ w.heap.size) :
    ∃ v' w', (Builtin.append_ #[27, 27] ty #[v, .slice ao m c]).run Tryz.prog w = .ok v' w' ∧ OwnE w' base v' (xs ++ zs) ∧ Below base w w' := by
  obtain ⟨i0, hi, hz0, hz1, hz2⟩ := info_parts info5B
  have h1c : ∀ u ∈ zs.map (Value.int .u8), u.oneCell' = true := by intro u hu; simp at hu; obtain ⟨z, _, rfl⟩ := hu; rfl
  rcases hown with hown | ⟨rfl, g, rfl⟩
  · cases ao with
    | none =>
      obtain ⟨rfl, rfl⟩ := hno rfl
      have hz : zs = [] := List.eq_nil_of_length_eq_zero hB.1
      subst hz
      exact ⟨v, w, run_append_owned_none (P := Tryz.prog) (w := w) base 27 ty 5 i0 1 Tryz.underlying27 hi v _ _ hown, by rw [List.append_nil]; exact .inl hown, Below.refl _ _⟩
    | some ad =>
      obtain ⟨v', w', hr, h2, h3, _⟩ := run_append_own (P := Tryz.prog) w base 27 ty 5 i0 (.int .u8 0) 1 1 Tryz.underlying27 hi hz0 hz1 hz2 rfl (by decide) v _ _ hown ad m c (zs.map (Value.int .u8)) (by simp [hB.1]) (isB_cells hB) h1c (by unfold maxLen; omega) (by omega) hbase
      refine ⟨v', w', hr, .inl ?_, (Below.refl _ _).grown h3 hbase (own_blockB hown)⟩
      unfold OwnB
      rw [List.length_append, hB.1, List.map_append]
      exact h2
  · by_cases hm : m = 0
    · subst hm
      have hz : zs = [] := List.eq_nil_of_length_eq_zero hB.1
      subst hz
      refine ⟨.slice (some ⟨g, 0, none⟩) 0 0, w, ?_, .inr ⟨rfl, g, rfl⟩, Below.refl _ _⟩
      cases ao with
      | none =>
        obtain ⟨_, rfl⟩ := hno rfl
        simp [Builtin.append_, run_underlying Tryz.underlying27, sizeOf, typeInfo, hi, Builtin.lenOf, Builtin.firstCells, storeCells]
      | some ad =>
        have := run_append_room_cells (P := Tryz.prog) w 27 ty 5 i0 Tryz.underlying27 hi g 0 0 0 ad 0 c [] (by simp) (by simp) (by simp) (Nat.le_refl _) (by simp) (by simp)
        exact this
    · cases ao with
      | none => have := hno rfl; omega
      | some ad =>
        obtain ⟨v', w', hr, h2, h3⟩ := run_append_arg_grows (P := Tryz.prog) w 27 ty 5 i0 (.int .u8 0) 1 1 Tryz.underlying27 hi hz0 hz1 hz2 rfl (by decide) ⟨g, 0, none⟩ 0 0 [] (by simp) (by simp) ad m c (zs.map (Value.int .u8)) (by simp [hB.1]) (isB_cells hB) (by omega) (by unfold maxLen; omega) (by omega)
        refine ⟨v', w', hr, .inl ?_, (Below.refl _ _).grown h3 hbase (by intro k hk; simp at hk)⟩
        refine own_mono (base := w.heap.size) ?_ hbase
        unfold OwnB
        rw [List.nil_append, hB.1]
        simpa using h2

theorem stepE_append {w : World} {ops : Array Oper} {o : Oper} {a : Act} {K : Act → World → Prop} {Q : Exit → Act → World → Prop} {E : Prop} (hgd : o.guard = none) (s x : Operand)
    (ho : o.op = .call { callee := .builtin .append, args := #[s, x], argTypes := #[27, 27] })
    (base : Nat) (v : Value) (xs : List Int) (hs : a.eval s = v) (hown : OwnE w base v xs)
    (ao : Option Addr) (m c : Nat) (zs : List Int) (hx : a.eval x = .slice ao m c) (hB : IsB w ao m zs) (hno : ao = none → m = 0 ∧ c = 0)
    (hbd : xs.length + m ≤ 140737488355328) (hbase : base ≤ w.heap.size)
    (h : ∀ v' w', OwnE w' base v' (xs ++ zs) → Below base w w' → K (a.put o.dst v') w') : if Region.wanted o (yielded ops a.tmps) = true then Oper.wp Tryz.prog o a w K Q else E := by
  have hw : Region.wanted o (yielded ops a.tmps) = true := by simp [Region.wanted, hgd]
  rw [if_pos hw]
  obtain ⟨v', w', hrun, h1, h2⟩ := runE_append w o.type base v xs hown ao m c zs hB hno hbd hbase
  unfold Oper.wp
  simp [execOp, ho, resolve, invoke, builtin, hs, hx, hrun, Result.andThen]
  exact h v' w' h1 h2
end Go.Proofs.YtnopnjklcdcckaaGreatDoor
namespace Go.Proofs.YtnopnjklcdcckaaGreatDoor
set_option linter.unusedVariables false
open Go.ChangeShapes Go.WideShapes Go.ChangeAt Go.RowKit

/-- a field as a value -/
def fv (num ty n : Int) (a : Option Addr) (len cap : Nat) : Value := .agg #[.int .i64 num, .int .i64 ty, .int .u64 n, .slice a len cap]
/-- whether it is a field -/
def fmd (num ty n : Int) (len : Nat) : Bool :=
  decide (1 ≤ num ∧ num ≤ 536870911 ∧ (((ty = 0 ∨ ty = 1) ∧ len = 0) ∨ (ty = 5 ∧ len = 0 ∧ n < 4294967296) ∨ (ty = 2 ∧ n = 0)))
theorem ret_bool {a b : Bool} (h : a = b) : Ending.returned (.bool a) = .returned (.bool b) := by rw [h]

end Go.Proofs.YtnopnjklcdcckaaGreatDoor
namespace Go.Proofs.YtnopnjklcdcckaaGreatDoor
set_option linter.unusedVariables false
open Go.ChangeShapes Go.WideShapes Go.ChangeAt Go.RowKit

/-- what is taken of bytes as a field -/
structure TF where
  num : Int
  ty : Int
  n : Int
  data : List Int
  k : Int
  e : Int
def tfErr (e : Int) : TF := ⟨0, 0, 0, [], 0, e⟩
/-- what belongs to a field, behind its first varint: key: that; k0: how many bytes it had; rest: what stands behind it -/
def tfBody (key k0 : Int) (rest : List Int) : TF :=
  if key / 8 < 1 ∨ 536870911 < key / 8 ∨ ¬(key % 8 = 0 ∨ key % 8 = 1 ∨ key % 8 = 2 ∨ key % 8 = 5) then tfErr 2
  else if key % 8 = 0 then
    if (dec 0 0 rest).2.2 ≠ 0 then tfErr (dec 0 0 rest).2.2 else ⟨key / 8, 0, (dec 0 0 rest).1, [], k0 + (dec 0 0 rest).2.1, 0⟩
  else if key % 8 = 2 then
    if (dec 0 0 rest).2.2 ≠ 0 then tfErr (dec 0 0 rest).2.2
    else if (rest.length : Int) - (dec 0 0 rest).2.1 < (dec 0 0 rest).1 then tfErr 5
    else ⟨key / 8, 2, 0, (rest.drop (dec 0 0 rest).2.1.toNat).take (dec 0 0 rest).1.toNat, k0 + (dec 0 0 rest).2.1 + (dec 0 0 rest).1, 0⟩
  else if key % 8 = 5 then
    if rest.length < 4 then tfErr 5 else ⟨key / 8, 5, low (rest.take 4), [], k0 + 4, 0⟩
  else
    if rest.length < 8 then tfErr 5 else ⟨key / 8, 1, low (rest.take 8), [], k0 + 8, 0⟩
def tf (zs : List Int) : TF :=
  if (dec 0 0 zs).2.2 ≠ 0 then tfErr (dec 0 0 zs).2.2 else tfBody (dec 0 0 zs).1 (dec 0 0 zs).2.1 (zs.drop (dec 0 0 zs).2.1.toNat)

/-- a slice of bytes, whose elements are zs, in a block whose number is base or more -/
def NewB (w : World) (base : Nat) (a : Option Addr) (len : Nat) (zs : List Int) : Prop :=
  zs.length = len ∧ len ≤ 281474976710656 ∧ (zs = [] ∨ ∃ b off, a = some ⟨b, off, none⟩ ∧ base ≤ b ∧ Held w b off zs)
theorem NewB.isB {w : World} {base : Nat} {a : Option Addr} {len : Nat} {zs : List Int} (h : NewB w base a len zs) : IsB w a len zs :=
  ⟨h.1, h.2.1, h.2.2.imp id fun ⟨b, off, h1, _, h3⟩ => ⟨b, off, h1, h3⟩⟩
theorem NewB.mono {w : World} {base base' : Nat} {a : Option Addr} {len : Nat} {zs : List Int} (h : NewB w base a len zs) (hb : base' ≤ base) : NewB w base' a len zs :=
  ⟨h.1, h.2.1, h.2.2.imp id fun ⟨b, off, h1, h2, h3⟩ => ⟨b, off, h1, Nat.le_trans hb h2, h3⟩⟩
/-- the same bytes lie in a world in which the cells from base on that were there are as they were -/
theorem NewB.cells {w w2 : World} {base : Nat} {a : Option Addr} {len : Nat} {zs : List Int} (h : NewB w base a len zs)
    (hc : ∀ b o v, base ≤ b → b < w.heap.size → w.cell? ⟨b, o, none⟩ = some v → w2.cell? ⟨b, o, none⟩ = some v) : NewB w2 base a len zs :=
  ⟨h.1, h.2.1, h.2.2.imp id fun ⟨b, off, h1, h2, h3⟩ => ⟨b, off, h1, h2, fun j z hj => hc _ _ _ h2 (cell_ltB (h3.1 j z hj)) (h3.1 j z hj), h3.2⟩⟩
/-- the world with nothing in the blocks below -/
def blank (w : World) (B : Nat) : World := { w with heap := w.heap.mapIdx fun i o => if i < B then .cells #[] 0 else o }
theorem blank_high (w : World) (B b o : Nat) (h : B ≤ b) : (blank w B).cell? ⟨b, o, none⟩ = w.cell? ⟨b, o, none⟩ := by
  have hn : ¬ b < B := by omega
  simp [World.cell?, blank, Array.getElem?_mapIdx, hn]
theorem blank_low (w : World) (B b o : Nat) (h : b < B) : (blank w B).cell? ⟨b, o, none⟩ = none := by
  simp [World.cell?, blank, Array.getElem?_mapIdx, h]
  cases w.heap[b]? <;> simp
theorem stable_newB {w : World} {B : Nat} {a : Option Addr} {len : Nat} {zs : List Int} (h : ∀ w2, (∀ b o, B ≤ b → w2.cell? ⟨b, o, none⟩ = w.cell? ⟨b, o, none⟩) → IsB w2 a len zs) : NewB w B a len zs := by
  obtain ⟨h1, h2, h3⟩ := h w (fun _ _ _ => rfl)
  refine ⟨h1, h2, ?_⟩
  rcases h3 with h3 | ⟨b, off, rfl, hh⟩
  · exact .inl h3
  · by_cases h0 : zs = []
    · exact .inl h0
    · refine .inr ⟨b, off, rfl, ?_, hh⟩
      obtain ⟨_, _, h5 | ⟨b', off', hab, hh'⟩⟩ := h (blank w B) (fun b o hb => blank_high w B b o hb)
      · exact absurd h5 h0
      · cases hab
        cases zs with
        | nil => exact absurd rfl h0
        | cons z zs =>
          have hc := hh'.1 0 z rfl
          by_cases hb : b < B
          · rw [blank_low _ _ _ _ hb] at hc; simp at hc
          · omega

/-- a slice without an address is empty; and how far a slice can grow -/
def NoA (a : Option Addr) (l c : Nat) : Prop := (a = none → l = 0 ∧ c = 0) ∧ l ≤ c ∧ c ≤ 9223372036854775807
theorem NoA.zero : NoA none 0 0 := ⟨fun _ => ⟨rfl, rfl⟩, by omega, by omega⟩
/-- what a call that takes a field answers; its bytes lie in memory that the call has made -/
def TfAns (w w' : World) (e : Ending) (r : TF) : Prop :=
  ∃ a len cap, e = .returned (.tuple #[fv r.num r.ty r.n a len cap, .int .i64 r.k, .int .i64 r.e]) ∧ NewB w' w.heap.size a len r.data ∧ NoA a len cap ∧ Below w.heap.size w w'

theorem tfErr_ans (w w' : World) (x : Int) (hb : Below w.heap.size w w') :
    TfAns w w' (.returned (.tuple #[.agg #[.int .i64 0, .int .i64 0, .int .u64 0, .slice none 0 0], .int .i64 0, .int .i64 x])) (tfErr x) :=
  ⟨none, 0, 0, rfl, ⟨rfl, by simp, .inl rfl⟩, NoA.zero, hb⟩

theorem isB_dropAt {w : World} {b off len : Nat} {zs : List Int} (hB : IsB w (some ⟨b, off, none⟩) len zs) (k : Nat) (hk : k < len) : IsB w (some ⟨b, off + k, none⟩) (len - k) (zs.drop k) := by
  obtain ⟨h1, h2, h3⟩ := hB
  refine ⟨by rw [List.length_drop]; omega, by omega, ?_⟩
  rcases h3 with h3 | ⟨b', off', hab, hh⟩
  · rw [h3] at h1; simp at h1; omega
  · cases hab
    refine .inr ⟨_, _, rfl, ?_, fun z hz => hh.2 z (List.mem_of_mem_drop hz)⟩
    intro j z hj
    rw [List.getElem?_drop] at hj
    have := hh.1 (k + j) z hj
    rw [Nat.add_assoc]; exact this
theorem isB_end {w : World} {a : Option Addr} {len : Nat} {zs : List Int} (hB : IsB w a len zs) (a' : Option Addr) : IsB w a' 0 (zs.drop len) :=
  ⟨by rw [List.length_drop]; have := hB.1; omega, by omega, .inl (List.drop_eq_nil_of_le (by have := hB.1; omega))⟩

/-- the elements of a slice from the k-th on, as Go cuts it: at the end of its room the address stays -/
def cutAt (b off cap k : Nat) : Addr := if cap = k then ⟨b, off, none⟩ else ⟨b, off + k, none⟩
theorem cutAt_end (b off m : Nat) : cutAt b off m m = ⟨b, off, none⟩ := by unfold cutAt; rw [if_pos rfl]
theorem cutAt_in {b off m k : Nat} (h : ¬ m = k) : cutAt b off m k = ⟨b, off + k, none⟩ := by unfold cutAt; rw [if_neg h]
theorem isB_cut {w : World} {b off len cap : Nat} {zs : List Int} (hB : IsB w (some ⟨b, off, none⟩) len zs) (hc : len ≤ cap) (k : Nat) (hk : k ≤ len) : IsB w (some (cutAt b off cap k)) (len - k) (zs.drop k) := by
  by_cases h : k = len
  · subst h
    rw [Nat.sub_self]; exact isB_end hB _
  · unfold cutAt
    rw [if_neg (by omega)]
    exact isB_dropAt hB k (by omega)

end Go.Proofs.YtnopnjklcdcckaaGreatDoor
