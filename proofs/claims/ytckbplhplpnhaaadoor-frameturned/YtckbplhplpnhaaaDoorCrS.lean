/-
  A byte of a slice of the call's own is written; a conversion between slices of bytes.
-/
import Derived.Test.YtckbplhplpnhaaaDoorCrP
import Derived.Laws.Tables
import Derived.Lib.SlBytesConst
import Derived.Deep.LoopGhost
namespace Go.Proofs.YtckbplhplpnhaaaDoor
set_option linter.unusedVariables false
open Go.ChangeShapes Go.WideShapes Go.ChangeAt Go.RowKit

theorem isB_marked (w : World) (z : Int) (fr : Nat × Nat) (h0 : 0 ≤ z) (h1 : z ≤ 255) : IsB (w.alloc (.cells #[.int .u8 z] 5 fr)) (some ⟨w.heap.size, 0, none⟩) 1 [z] := by
  refine ⟨rfl, by omega, .inr ⟨_, _, rfl, fun j y hj => ?_, by simp; omega⟩⟩
  cases j with
  | succ j => simp at hj
  | zero =>
    simp only [List.getElem?_cons_zero, Option.some.injEq] at hj
    subst hj
    have hh : (w.alloc (.cells #[.int .u8 z] 5 fr)).heap[w.heap.size]? = some (.cells #[.int .u8 z] 5 fr) := by
      show (w.heap.push _)[w.heap.size]? = _
      simp
    simp only [World.cell?, hh]
    rfl
theorem isB_bt {w : World} {a : Option Addr} {len : Nat} {zs : List Int} (h : IsB w a len zs) : ∀ z ∈ zs, 0 ≤ z ∧ z ≤ 255 := by
  rcases h.2.2 with rfl | ⟨b, off, _, hh⟩
  · simp
  · exact hh.2
theorem own_setB {w : World} {base : Nat} {v : Value} {xs : List Int} (h : OwnB w base v xs) (hk : 1 ≤ xs.length) :
    ∃ g c, v = .slice (some ⟨g, 0, none⟩) xs.length c ∧ base ≤ g ∧ g < w.heap.size ∧ (∀ k z, xs[k]? = some z → w.cell? ⟨g, k, none⟩ = some (.int .u8 z)) ∧ (∀ k, k < xs.length → w.frozen? ⟨g, k, none⟩ = false) ∧
      ∀ k y, k < xs.length → OwnB (w.setCell ⟨g, k, none⟩ (.int .u8 y)) base v (xs.set k y) := by
  obtain ⟨_, ⟨h1, h0⟩ | ⟨g, c, cur, rfl, hg, hh, h3, h4, h5, h6⟩⟩ := h
  · omega
  · rw [Nat.mul_one] at h6 h5
    refine ⟨g, c, rfl, hg, (Array.getElem?_eq_some_iff.1 hh).1, fun k z hz => ?_, fun k hk => by simp [World.frozen?, hh], fun k y hk2 => ⟨by simp, .inr ⟨g, c, cur.setIfInBounds k (.int .u8 y), by simp, hg, ?_, by simpa using h3, h4, by simpa using h5, ?_⟩⟩⟩
    · have hkl : k < xs.length := (List.getElem?_eq_some_iff.1 hz).1
      have e : cur.toList[k]? = some (.int .u8 z) := by
        have : (cur.toList.take xs.length)[k]? = (xs.map (Value.int .u8))[k]? := by rw [h6]
        rw [List.getElem?_take, if_pos hkl, List.getElem?_map, hz] at this
        simpa using this
      simp only [World.cell?, hh]
      simpa using e
    · rw [setCell_eq_setRow _ _ _ _ _ _ _ hh, setRow_heap w g cur _ 5 _ hh]
    · rw [Nat.mul_one, List.length_set, Array.toList_setIfInBounds, List.take_set, h6, List.map_set]
theorem nats_append (a b : List Int) : nats (a ++ b) = nats a ++ nats b := by unfold nats; rw [List.map_append]
theorem nats_len (a : List Int) : (nats a).length = a.length := by unfold nats; rw [List.length_map]
theorem sumC_lt {zs : List Int} (hb : ∀ z ∈ zs, 0 ≤ z ∧ z ≤ 255) : sumC (nats zs) < 4294967296 := by
  unfold sumC updC
  exact not_lt (raw_lt (not_lt (by omega)) (nats_lt hb))
theorem bit_turned (z : Int) (m : Nat) (h0 : 0 ≤ z) (h1 : z ≤ 255) (hm : m < 8) :
    0 ≤ bits .xor .u8 z ((2 : Int) ^ m % 256) ∧ bits .xor .u8 z ((2 : Int) ^ m % 256) ≤ 255 ∧ z.toNat ≠ (bits .xor .u8 z ((2 : Int) ^ m % 256)).toNat := by
  obtain ⟨Z, rfl⟩ := Int.eq_ofNat_of_zero_le h0
  have hp : ∃ P : Nat, (2 : Int) ^ m % 256 = (P : Int) ∧ P < 256 ∧ 0 < P := by
    refine ⟨2 ^ m, ?_, ?_, Nat.two_pow_pos _⟩
    · rcases (by omega : m = 0 ∨ m = 1 ∨ m = 2 ∨ m = 3 ∨ m = 4 ∨ m = 5 ∨ m = 6 ∨ m = 7) with rfl | rfl | rfl | rfl | rfl | rfl | rfl | rfl <;> decide
    · rcases (by omega : m = 0 ∨ m = 1 ∨ m = 2 ∨ m = 3 ∨ m = 4 ∨ m = 5 ∨ m = 6 ∨ m = 7) with rfl | rfl | rfl | rfl | rfl | rfl | rfl | rfl <;> decide
  obtain ⟨P, hP, hP1, hP0⟩ := hp
  rw [hP, u8_xor_nat Z P (by omega) hP1]
  have hlt : Z ^^^ P < 256 := Nat.xor_lt_two_pow (n := 8) (by omega) (by omega)
  refine ⟨by omega, by omega, fun e => ?_⟩
  have e2 : Z = Z ^^^ P := by simpa using e
  have e3 := congrArg (fun x => Z ^^^ x) e2
  simp only [Nat.xor_self, ← Nat.xor_assoc, Nat.zero_xor] at e3
  omega
theorem nats_set {zs : List Int} {k : Nat} {z y : Int} (h : zs[k]? = some z) : nats zs = nats (zs.take k) ++ z.toNat :: nats (zs.drop (k + 1)) ∧ nats (zs.set k y) = nats (zs.take k) ++ y.toNat :: nats (zs.drop (k + 1)) := by
  have hk : k < zs.length := (List.getElem?_eq_some_iff.1 h).1
  have hz : zs[k] = z := (List.getElem?_eq_some_iff.1 h).2
  unfold nats
  constructor
  · conv => lhs; rw [← List.take_append_drop k zs, List.drop_eq_getElem_cons hk, hz, List.map_append, List.map_cons]
  · rw [List.set_eq_take_append_cons_drop, if_pos hk, List.map_append, List.map_cons]
theorem sums_differ {zs : List Int} {k : Nat} {z y : Int} (hb : ∀ z ∈ zs, 0 ≤ z ∧ z ≤ 255) (h : zs[k]? = some z) (h0 : 0 ≤ y) (h1 : y ≤ 255) (hne : z.toNat ≠ y.toNat) : sumC (nats (zs.set k y)) ≠ sumC (nats zs) := by
  have hz := hb z (List.mem_of_getElem? h)
  obtain ⟨e1, e2⟩ := nats_set (y := y) h
  rw [e1, e2]
  exact sum_turned (nats_lt fun x hx => hb x (List.mem_of_mem_take hx)) (nats_lt fun x hx => hb x (List.mem_of_mem_drop hx)) (by omega) (by omega) (fun e => hne e.symm)
end Go.Proofs.YtckbplhplpnhaaaDoor
