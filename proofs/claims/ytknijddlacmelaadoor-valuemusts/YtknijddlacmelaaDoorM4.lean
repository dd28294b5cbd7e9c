/-
  A law of append at slices of bytes, in the words of this seat: what was owned is owned with the new bytes behind it; nothing that was there before the call has turned. Nothing is proved of the program here.
  The walks over the document's own Formed and Same: whether a field is one, and whether two fields are alike. They make new memory alone.
  The walk over the document's own TakeField: of any bytes the field that stands at their beginning, or an error; it makes new memory alone.
  The walk over the document's own TakeField where the field has bytes of its own (type 2).
  The walks over the library's slices.Grow (of no slice) and slices.Concat at slices of bytes: the bytes of all slices, one behind the other, in new memory; nothing that was there is changed. No condition but that all together are at most 2^48 bytes.
-/
import Derived.Test.YtknijddlacmelaaDoorRows
import Derived.Test.YtknijddlacmelaaDoorM3
import Derived.Laws.AppendOwn
import Derived.Laws.AppendOwnNone
import Derived.OwnWalk
import Derived.ArgAppend
import Derived.Laws.BytesArg
import Derived.Laws.BytesString
import Derived.Laws.Concat
import Derived.Laws.Strings
import Derived.Deep.RegionLaw
import Derived.Deep.DeepCutAuto
import Derived.Laws.OwnMore
import Derived.Lib.AppendZeros
namespace Go.Proofs.YtknijddlacmelaaDoor
set_option linter.unusedVariables false
open Go.ChangeShapes Go.WideShapes Go.ChangeAt Go.RowKit

/-- a slice of bytes that the call itself has made (its block's number is base or more): xs -/
def OwnB (w : World) (base : Nat) (v : Value) (xs : List Int) : Prop := w.ownsRow base 5 1 v xs.length (xs.map (Value.int .u8))

theorem own_isB {w : World} {base : Nat} {v : Value} {xs : List Int} (h : OwnB w base v xs) (hb : ∀ z ∈ xs, 0 ≤ z ∧ z ≤ 255) (hm : xs.length ≤ 281474976710656) :
    ∃ a c, v = .slice a xs.length c ∧ IsB w a xs.length xs ∧ xs.length ≤ c ∧ (a = none → xs.length = 0 ∧ c = 0) := by
  obtain ⟨_, h2⟩ := h
  rcases h2 with ⟨rfl, h0⟩ | ⟨g, cap, cur, rfl, hg, hh, h3, h4, h5, h6⟩
  · have hx : xs = [] := List.eq_nil_of_length_eq_zero h0
    subst hx
    exact ⟨none, 0, rfl, ⟨rfl, by simp, .inl rfl⟩, Nat.le_refl _, fun _ => ⟨rfl, rfl⟩⟩
  · refine ⟨_, cap, rfl, ⟨rfl, hm, .inr ⟨g, 0, rfl, ?_, hb⟩⟩, h3, fun h => by simp at h⟩
    intro j z hj
    have hjl : j < xs.length := by
      by_cases hjl : j < xs.length
      · exact hjl
      · rw [List.getElem?_eq_none (by omega)] at hj; simp at hj
    have e : cur.toList[j]? = some (.int .u8 z) := by
      have : (cur.toList.take (xs.length * 1))[j]? = (xs.map (Value.int .u8))[j]? := by rw [h6]
      rw [List.getElem?_take, if_pos (by omega), List.getElem?_map, hj] at this
      simpa using this
    rw [Nat.zero_add]
    simp only [World.cell?, hh]
    simpa using e
theorem isB_cells {w : World} {ad : Addr} {m : Nat} {zs : List Int} (h : IsB w (some ad) m zs) : ∀ j u, (zs.map (Value.int .u8))[j]? = some u → w.cell? (ad.add j) = some u := by
  intro j u hj
  rw [List.getElem?_map] at hj
  obtain ⟨_, _, rfl | ⟨b, off, hab, hh⟩⟩ := h
  · simp at hj
  · cases hq : zs[j]? with
    | none => rw [hq] at hj; simp at hj
    | some z =>
      rw [hq] at hj
      simp at hj
      subst hj
      cases hab
      rw [add_off]; exact hh.1 j z hq
theorem own_blockB {w : World} {base : Nat} {v : Value} {xs : List Int} (h : OwnB w base v xs) : ∀ k, v.ownBlock = some k → base ≤ k := by
  intro k hk
  obtain ⟨_, ⟨rfl, _⟩ | ⟨g, cap, cur, rfl, hg, _⟩⟩ := h
  · simp [Value.ownBlock] at hk
  · simp [Value.ownBlock] at hk; omega
/-- owned, or an empty slice with no room -/
def OwnE (w : World) (base : Nat) (v : Value) (xs : List Int) : Prop := OwnB w base v xs ∨ (xs = [] ∧ ∃ g, v = .slice (some ⟨g, 0, none⟩) 0 0)

end Go.Proofs.YtknijddlacmelaaDoor
namespace Go.Proofs.YtknijddlacmelaaDoor
set_option linter.unusedVariables false
open Go.ChangeShapes Go.WideShapes Go.ChangeAt Go.RowKit

/-- a field as a value -/
def fv (num ty n : Int) (a : Option Addr) (len cap : Nat) : Value := .agg #[.int .i64 num, .int .i64 ty, .int .u64 n, .slice a len cap]
/-- whether it is a field -/
def fmd (num ty n : Int) (len : Nat) : Bool :=
  decide (1 ≤ num ∧ num ≤ 536870911 ∧ (((ty = 0 ∨ ty = 1) ∧ len = 0) ∨ (ty = 5 ∧ len = 0 ∧ n < 4294967296) ∨ (ty = 2 ∧ n = 0)))
theorem ret_bool {a b : Bool} (h : a = b) : Ending.returned (.bool a) = .returned (.bool b) := by rw [h]

end Go.Proofs.YtknijddlacmelaaDoor
namespace Go.Proofs.YtknijddlacmelaaDoor
set_option linter.unusedVariables false
open Go.ChangeShapes Go.WideShapes Go.ChangeAt Go.RowKit

/-- what is taken of bytes as a field -/
structure TF where
  num : Int
  ty : Int
  n : Int
  data : List Int
  k : Int
  e : Int
def tfErr (e : Int) : TF := ⟨0, 0, 0, [], 0, e⟩
/-- what belongs to a field, behind its first varint: key: that; k0: how many bytes it had; rest: what stands behind it -/
def tfBody (key k0 : Int) (rest : List Int) : TF :=
  if key / 8 < 1 ∨ 536870911 < key / 8 ∨ ¬(key % 8 = 0 ∨ key % 8 = 1 ∨ key % 8 = 2 ∨ key % 8 = 5) then tfErr 2
  else if key % 8 = 0 then
    if (dec 0 0 rest).2.2 ≠ 0 then tfErr (dec 0 0 rest).2.2 else ⟨key / 8, 0, (dec 0 0 rest).1, [], k0 + (dec 0 0 rest).2.1, 0⟩
  else if key % 8 = 2 then
    if (dec 0 0 rest).2.2 ≠ 0 then tfErr (dec 0 0 rest).2.2
    else if (rest.length : Int) - (dec 0 0 rest).2.1 < (dec 0 0 rest).1 then tfErr 5
    else ⟨key / 8, 2, 0, (rest.drop (dec 0 0 rest).2.1.toNat).take (dec 0 0 rest).1.toNat, k0 + (dec 0 0 rest).2.1 + (dec 0 0 rest).1, 0⟩
  else if key % 8 = 5 then
    if rest.length < 4 then tfErr 5 else ⟨key / 8, 5, low (rest.take 4), [], k0 + 4, 0⟩
  else
    if rest.length < 8 then tfErr 5 else ⟨key / 8, 1, low (rest.take 8), [], k0 + 8, 0⟩
def tf (zs : List Int) : TF :=
  if (dec 0 0 zs).2.2 ≠ 0 then tfErr (dec 0 0 zs).2.2 else tfBody (dec 0 0 zs).1 (dec 0 0 zs).2.1 (zs.drop (dec 0 0 zs).2.1.toNat)

/-- a slice of bytes, whose elements are zs, in a block whose number is base or more -/
def NewB (w : World) (base : Nat) (a : Option Addr) (len : Nat) (zs : List Int) : Prop :=
  zs.length = len ∧ len ≤ 281474976710656 ∧ (zs = [] ∨ ∃ b off, a = some ⟨b, off, none⟩ ∧ base ≤ b ∧ Held w b off zs)
theorem NewB.isB {w : World} {base : Nat} {a : Option Addr} {len : Nat} {zs : List Int} (h : NewB w base a len zs) : IsB w a len zs :=
  ⟨h.1, h.2.1, h.2.2.imp id fun ⟨b, off, h1, _, h3⟩ => ⟨b, off, h1, h3⟩⟩
theorem NewB.mono {w : World} {base base' : Nat} {a : Option Addr} {len : Nat} {zs : List Int} (h : NewB w base a len zs) (hb : base' ≤ base) : NewB w base' a len zs :=
  ⟨h.1, h.2.1, h.2.2.imp id fun ⟨b, off, h1, h2, h3⟩ => ⟨b, off, h1, Nat.le_trans hb h2, h3⟩⟩
/-- the same bytes lie in a world in which the cells from base on that were there are as they were -/
theorem NewB.cells {w w2 : World} {base : Nat} {a : Option Addr} {len : Nat} {zs : List Int} (h : NewB w base a len zs)
    (hc : ∀ b o v, base ≤ b → b < w.heap.size → w.cell? ⟨b, o, none⟩ = some v → w2.cell? ⟨b, o, none⟩ = some v) : NewB w2 base a len zs :=
  ⟨h.1, h.2.1, h.2.2.imp id fun ⟨b, off, h1, h2, h3⟩ => ⟨b, off, h1, h2, fun j z hj => hc _ _ _ h2 (cell_ltB (h3.1 j z hj)) (h3.1 j z hj), h3.2⟩⟩
/-- the world with nothing in the blocks below -/
def blank (w : World) (B : Nat) : World := { w with heap := w.heap.mapIdx fun i o => if i < B then .cells #[] 0 else o }
theorem blank_high (w : World) (B b o : Nat) (h : B ≤ b) : (blank w B).cell? ⟨b, o, none⟩ = w.cell? ⟨b, o, none⟩ := by
  have hn : ¬ b < B := by omega
  simp [World.cell?, blank, Array.getElem?_mapIdx, hn]
theorem blank_low (w : World) (B b o : Nat) (h : b < B) : (blank w B).cell? ⟨b, o, none⟩ = none := by
  simp [World.cell?, blank, Array.getElem?_mapIdx, h]
  cases w.heap[b]? <;> simp
theorem stable_newB {w : World} {B : Nat} {a : Option Addr} {len : Nat} {zs : List Int} (h : ∀ w2, (∀ b o, B ≤ b → w2.cell? ⟨b, o, none⟩ = w.cell? ⟨b, o, none⟩) → IsB w2 a len zs) : NewB w B a len zs := by
  obtain ⟨h1, h2, h3⟩ := h w (fun _ _ _ => rfl)
  refine ⟨h1, h2, ?_⟩
  rcases h3 with h3 | ⟨b, off, rfl, hh⟩
  · exact .inl h3
  · by_cases h0 : zs = []
    · exact .inl h0
    · refine .inr ⟨b, off, rfl, ?_, hh⟩
      obtain ⟨_, _, h5 | ⟨b', off', hab, hh'⟩⟩ := h (blank w B) (fun b o hb => blank_high w B b o hb)
      · exact absurd h5 h0
      · cases hab
        cases zs with
        | nil => exact absurd rfl h0
        | cons z zs =>
          have hc := hh'.1 0 z rfl
          by_cases hb : b < B
          · rw [blank_low _ _ _ _ hb] at hc; simp at hc
          · omega

/-- a slice without an address is empty; and how far a slice can grow -/
def NoA (a : Option Addr) (l c : Nat) : Prop := (a = none → l = 0 ∧ c = 0) ∧ l ≤ c ∧ c ≤ 9223372036854775807
theorem NoA.zero : NoA none 0 0 := ⟨fun _ => ⟨rfl, rfl⟩, by omega, by omega⟩
/-- what a call that takes a field answers; its bytes lie in memory that the call has made -/
def TfAns (w w' : World) (e : Ending) (r : TF) : Prop :=
  ∃ a len cap, e = .returned (.tuple #[fv r.num r.ty r.n a len cap, .int .i64 r.k, .int .i64 r.e]) ∧ NewB w' w.heap.size a len r.data ∧ NoA a len cap ∧ Below w.heap.size w w'

theorem tfErr_ans (w w' : World) (x : Int) (hb : Below w.heap.size w w') :
    TfAns w w' (.returned (.tuple #[.agg #[.int .i64 0, .int .i64 0, .int .u64 0, .slice none 0 0], .int .i64 0, .int .i64 x])) (tfErr x) :=
  ⟨none, 0, 0, rfl, ⟨rfl, by simp, .inl rfl⟩, NoA.zero, hb⟩

theorem isB_dropAt {w : World} {b off len : Nat} {zs : List Int} (hB : IsB w (some ⟨b, off, none⟩) len zs) (k : Nat) (hk : k < len) : IsB w (some ⟨b, off + k, none⟩) (len - k) (zs.drop k) := by
  obtain ⟨h1, h2, h3⟩ := hB
  refine ⟨by rw [List.length_drop]; omega, by omega, ?_⟩
  rcases h3 with h3 | ⟨b', off', hab, hh⟩
  · rw [h3] at h1; simp at h1; omega
  · cases hab
    refine .inr ⟨_, _, rfl, ?_, fun z hz => hh.2 z (List.mem_of_mem_drop hz)⟩
    intro j z hj
    rw [List.getElem?_drop] at hj
    have := hh.1 (k + j) z hj
    rw [Nat.add_assoc]; exact this
theorem isB_end {w : World} {a : Option Addr} {len : Nat} {zs : List Int} (hB : IsB w a len zs) (a' : Option Addr) : IsB w a' 0 (zs.drop len) :=
  ⟨by rw [List.length_drop]; have := hB.1; omega, by omega, .inl (List.drop_eq_nil_of_le (by have := hB.1; omega))⟩

/-- the elements of a slice from the k-th on, as Go cuts it: at the end of its room the address stays -/
def cutAt (b off cap k : Nat) : Addr := if cap = k then ⟨b, off, none⟩ else ⟨b, off + k, none⟩
theorem cutAt_end (b off m : Nat) : cutAt b off m m = ⟨b, off, none⟩ := by unfold cutAt; rw [if_pos rfl]
theorem cutAt_in {b off m k : Nat} (h : ¬ m = k) : cutAt b off m k = ⟨b, off + k, none⟩ := by unfold cutAt; rw [if_neg h]
theorem isB_cut {w : World} {b off len cap : Nat} {zs : List Int} (hB : IsB w (some ⟨b, off, none⟩) len zs) (hc : len ≤ cap) (k : Nat) (hk : k ≤ len) : IsB w (some (cutAt b off cap k)) (len - k) (zs.drop k) := by
  by_cases h : k = len
  · subst h
    rw [Nat.sub_self]; exact isB_end hB _
  · unfold cutAt
    rw [if_neg (by omega)]
    exact isB_dropAt hB k (by omega)

end Go.Proofs.YtknijddlacmelaaDoor
namespace Go.Proofs.YtknijddlacmelaaDoor
set_option linter.unusedVariables false
open Go.ChangeShapes Go.WideShapes Go.ChangeAt Go.RowKit

theorem ownE_isB {w : World} {base : Nat} {v : Value} {xs : List Int} (h : OwnE w base v xs) (hb : ∀ z ∈ xs, 0 ≤ z ∧ z ≤ 255) (hm : xs.length ≤ 281474976710656) :
    ∃ a c, v = .slice a xs.length c ∧ NoA a xs.length c ∧ ∀ w', (∀ b o, base ≤ b → w'.cell? ⟨b, o, none⟩ = w.cell? ⟨b, o, none⟩) → IsB w' a xs.length xs := by
  rcases h with h | ⟨rfl, g, rfl⟩
  · obtain ⟨a, c, hv, hI, hlc, hno⟩ := own_isB h hb hm
    have hcm : c ≤ 9223372036854775807 := by
      obtain ⟨_, ⟨h5, _⟩ | ⟨g, cap, cur, h5, _, _, _, h4, _⟩⟩ := h
      · have := (Value.slice.inj (hv.symm.trans h5)).2.2; omega
      · have := (Value.slice.inj (hv.symm.trans h5)).2.2; unfold maxLen at h4; omega
    refine ⟨a, c, hv, ⟨hno, hlc, hcm⟩, ?_⟩
    intro w' hw
    obtain ⟨h1, h2, h3⟩ := hI
    refine ⟨h1, h2, ?_⟩
    rcases h3 with h3 | ⟨g, off, ha, hh⟩
    · exact .inl h3
    · by_cases hx : xs = []
      · exact .inl hx
      · refine .inr ⟨g, off, ha, ?_, hh.2⟩
        intro j z hj
        rw [hw g _ ?_]
        · exact hh.1 j z hj
        · refine own_blockB h g ?_
          rw [hv, ha]; rfl
  · exact ⟨_, 0, rfl, ⟨fun h => by simp at h, Nat.le_refl _, by omega⟩, fun w' _ => ⟨rfl, by simp, .inl rfl⟩⟩
end Go.Proofs.YtknijddlacmelaaDoor
namespace Go.Proofs.YtknijddlacmelaaDoor
set_option linter.unusedVariables false
open Go.ChangeShapes Go.WideShapes Go.ChangeAt Go.RowKit

/-- a slice that the call has made: xs, with room for n in all -/
def Fits (w : World) (base : Nat) (v : Value) (xs : List Int) (n : Nat) : Prop :=
  OwnB w base v xs ∧ ((v = .slice none 0 0 ∧ n = 0) ∨ ∃ g cap, v = .slice (some ⟨g, 0, none⟩) xs.length cap ∧ n ≤ cap)

/-- a slice of bytes, with its elements -/
structure Row3 where
  a : Option Addr
  len : Nat
  cap : Nat
  zs : List Int
def joined (rs : List Row3) : List Int := rs.flatMap (·.zs)
end Go.Proofs.YtknijddlacmelaaDoor
