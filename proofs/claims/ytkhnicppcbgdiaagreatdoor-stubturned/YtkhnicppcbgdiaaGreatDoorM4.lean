/-
  What the library functions that this program calls answer, as theorems over this translation: each is one application of a theorem of the given library. Nothing is proved of the program itself here.
  How the program goes along a text, rune by rune, held against the words of the text: plain words over bytes. Nothing is proved of the program here.
  The walks over the program's own remarkSize, nameSize, numberSize, take and behind.
  The walk over the program's own Words: the words of a text, or its error, and place.
  Which words are types, and which are reserved. Nothing is proved of the program here.
  Declarations in memory: what their cells hold, whichever blocks they lie in. Nothing is proved of the program here.
  Words and slices in memory, and steps of the plain reader: what the walks share. Nothing is proved of the program here.
-/
import Derived.Shelf.Strconv.Clone
import Derived.Shelf.Strings.Count
import Derived.Shelf.LaysM
import Derived.Ground.NamesProg
import Derived.Test.YtkhnicppcbgdiaaGreatDoorProg
import Derived.Test.YtkhnicppcbgdiaaGreatDoorM0
import Derived.Lib.ParseIntB
import Derived.Lib.Bytealg
import Derived.Test.YtkhnicppcbgdiaaGreatDoorM2
import Derived.Deep.RegionHeldLaw
import Derived.Deep.DeepCutAuto
import Derived.Lib.IndexBytes
import Derived.Laws.AppendOwn
import Derived.OwnWalk
import Derived.Deep.AppendLies
import Derived.WalkSmall
import Derived.Lib.OthersKept
import Derived.Deep.RegionWith
import Derived.Deep.QuietTactic
import Derived.BigQuiet
import Derived.Deep.RegionLaw
import Derived.Below
import Derived.WalkKit
import Derived.Maps.AppendAt
import Derived.Lib.Hide
namespace Go.Proofs.YtkhnicppcbgdiaaGreatDoor
open Go.Shelf
def laysM316_ren : Go.Shelf.Ren := ⟨fun | 316 => 84 | n => n, fun | 9 => 9 | 3 => 3 | 4 => 4 | 37 => 41 | 0 => 0 | 127 => 113 | 5 => 5 | n => n, fun | n => n⟩
theorem laysM316 : Go.Proofs.LaysM.n316 Tryz.prog laysM316_ren := {
  mixed := by kernel_rfl
  f316 := Tryz.func84.trans (congrArg some (by kernel_rfl))
  t0 := Tryz.underlying0
  a0 := Tryz.isAgg0
  z0 := Tryz.sizeOf0
  v0 := Tryz.zeroValue0
  t3 := Tryz.underlying3
  a3 := Tryz.isAgg3
  z3 := Tryz.sizeOf3
  v3 := Tryz.zeroValue3
  t4 := Tryz.underlying4
  a4 := Tryz.isAgg4
  z4 := Tryz.sizeOf4
  v4 := Tryz.zeroValue4
  t9 := Tryz.underlying9
  a9 := Tryz.isAgg9
  z9 := Tryz.sizeOf9
  v9 := Tryz.zeroValue9
  t37 := Tryz.underlying41
  a37 := Tryz.isAgg41
  z37 := Tryz.sizeOf41
  v37 := Tryz.zeroValue41
  t127 := Tryz.underlying113
  a127 := Tryz.isAgg113
  z127 := Tryz.sizeOf113
  v127 := Tryz.zeroValue113
  t5 := Tryz.underlying5
  a5 := Tryz.isAgg5
  z5 := Tryz.sizeOf5
  v5 := Tryz.zeroValue5
  i0 := by kernel_rfl
  i3 := by kernel_rfl
  i4 := by kernel_rfl
  i5 := by kernel_rfl
  i9 := by kernel_rfl
  i37 := by kernel_rfl
  i127 := by kernel_rfl }
open Go.RowKit in
theorem stringslite_Clone (s : ByteArray) (w : World) (hlim : s.size ≤ 281474976710656) :
    Calls Tryz.prog 84 #[.string s] w fun e w' => e = .returned (.string s) ∧ Below w.heap.size w w' := Any.stringslite_Clone laysM316 s w hlim
def lays138_ren : Go.Shelf.Ren := ⟨fun | 138 => 97 | 195 => 112 | 218 => 113 | 143 => 99 | 219 => 90 | 217 => 106 | 225 => 107 | 224 => 108 | 267 => 109 | 266 => 121 | 314 => 122 | n => n, fun | 9 => 9 | 3 => 3 | 4 => 4 | 5 => 5 | 0 => 0 | 46 => 40 | 146 => 155 | 51 => 133 | n => n, fun | 1 => 2 | n => n⟩
theorem lays138 : Go.Proofs.Lays.n138 Tryz.prog lays138_ren := {
  mixed := by kernel_rfl
  f138 := Tryz.func97.trans (congrArg some (by kernel_rfl))
  f143 := Tryz.func99.trans (congrArg some (by kernel_rfl))
  f195 := Tryz.func112.trans (congrArg some (by kernel_rfl))
  f217 := Tryz.func106.trans (congrArg some (by kernel_rfl))
  f218 := Tryz.func113.trans (congrArg some (by kernel_rfl))
  f219 := Tryz.func90.trans (congrArg some (by kernel_rfl))
  f224 := Tryz.func108.trans (congrArg some (by kernel_rfl))
  f225 := Tryz.func107.trans (congrArg some (by kernel_rfl))
  f266 := Tryz.func121.trans (congrArg some (by kernel_rfl))
  f267 := Tryz.func109.trans (congrArg some (by kernel_rfl))
  f314 := Tryz.func122.trans (congrArg some (by kernel_rfl))
  t0 := Tryz.underlying0
  a0 := Tryz.isAgg0
  z0 := Tryz.sizeOf0
  v0 := Tryz.zeroValue0
  t3 := Tryz.underlying3
  a3 := Tryz.isAgg3
  z3 := Tryz.sizeOf3
  v3 := Tryz.zeroValue3
  t4 := Tryz.underlying4
  a4 := Tryz.isAgg4
  z4 := Tryz.sizeOf4
  v4 := Tryz.zeroValue4
  t5 := Tryz.underlying5
  a5 := Tryz.isAgg5
  z5 := Tryz.sizeOf5
  v5 := Tryz.zeroValue5
  t9 := Tryz.underlying9
  a9 := Tryz.isAgg9
  z9 := Tryz.sizeOf9
  v9 := Tryz.zeroValue9
  t46 := Tryz.underlying40
  a46 := Tryz.isAgg40
  z46 := Tryz.sizeOf40
  v46 := Tryz.zeroValue40
  t51 := Tryz.underlying133
  a51 := Tryz.isAgg133
  z51 := Tryz.sizeOf133
  v51 := Tryz.zeroValue133
  t146 := Tryz.underlying155
  a146 := Tryz.isAgg155
  z146 := Tryz.sizeOf155
  v146 := Tryz.zeroValue155
  g1 := by kernel_rfl }
open Go.RowKit Go.Lib in
theorem strings_Count_one (s : ByteArray) (c : UInt8) (w : World) :
    Calls Tryz.prog 97 #[.string s, .string ⟨#[c]⟩] w fun e w' => e = .returned (.int .i64 (Lib.countByte s.data.toList c)) ∧ w' = w := Any.strings_Count_one lays138 s c w
end Go.Proofs.YtkhnicppcbgdiaaGreatDoor
namespace Go.Proofs.YtkhnicppcbgdiaaGreatDoor
set_option linter.unusedVariables false

/-- the rune at the head, as a range over the text has it -/
def rn (l : List UInt8) : Int := ((Lib.decodeL l).1 : Int)
theorem index_none : ∀ l : List UInt8, (∀ b ∈ l, b ≠ 10) → Lib.indexByte l 10 = -1
  | [], _ => rfl
  | b :: t, hb => by
    have h1 : (b == (10 : UInt8)) = false := by simpa using hb b (by simp)
    have h2 := index_none t fun x hx => hb x (by simp [hx])
    unfold Lib.indexByte
    rw [h1, h2]; rfl
end Go.Proofs.YtkhnicppcbgdiaaGreatDoor
namespace Go.Proofs.YtkhnicppcbgdiaaGreatDoor
set_option linter.unusedVariables false
open Go.ChangeShapes Go.WideShapes Go.ChangeAt Go.RowKit

theorem mkB_size (l : List UInt8) : (mkB l).size = l.length := by
  have := len_data (mkB l)
  rw [← this]; rfl
end Go.Proofs.YtkhnicppcbgdiaaGreatDoor
namespace Go.Proofs.YtkhnicppcbgdiaaGreatDoor
set_option linter.unusedVariables false
open Go.ChangeShapes Go.WideShapes Go.ChangeAt Go.RowKit

set_option maxHeartbeats 2000000 in
theorem clone_any (s : ByteArray) (w : World) (hs : s.size ≤ 1048576) :
    Calls Tryz.prog 61 #[.string s] w fun e w' => e = .returned (.string s) ∧ Below w.heap.size w w' := by
  have h := stringslite_Clone s w (by omega)
  go_enter Tryz.func61, Tryz.ntmps61
  go_wp2_with fail
  refine h.mono ?_
  rintro e w1 ⟨rfl, hb⟩
  go_wp2_with fail
  go_ret
  exact ⟨rfl, hb⟩
end Go.Proofs.YtkhnicppcbgdiaaGreatDoor
namespace Go.Proofs.YtkhnicppcbgdiaaGreatDoor
set_option linter.unusedVariables false

/-- the kind of a type by a word; 0: it is none -/
def scalarOf (l : List UInt8) : Int :=
  if (l == [105, 110, 116, 54, 52]) = true then 1 else if (l == [117, 105, 110, 116, 54, 52]) = true then 2 else if (l == [115, 105, 110, 116, 54, 52]) = true then 3
  else if (l == [98, 111, 111, 108]) = true then 4 else if (l == [115, 116, 114, 105, 110, 103]) = true then 5 else if (l == [98, 121, 116, 101, 115]) = true then 6
  else if (l == [102, 105, 120, 101, 100, 51, 50]) = true then 7 else if (l == [102, 105, 120, 101, 100, 54, 52]) = true then 8 else 0
/-- whether a word is reserved -/
def resOf (l : List UInt8) : Bool :=
  l == [109, 101, 115, 115, 97, 103, 101] || l == [101, 110, 117, 109] || l == [115, 101, 114, 118, 105, 99, 101] || l == [114, 112, 99] || l == [114, 101, 116, 117, 114, 110, 115] || l == [114, 101, 112, 101, 97, 116, 101, 100] || decide (0 < scalarOf l)
end Go.Proofs.YtkhnicppcbgdiaaGreatDoor
namespace Go.Proofs.YtkhnicppcbgdiaaGreatDoor
set_option linter.unusedVariables false
open Go.RowKit

/-- a slice's elements lie in memory, in a block of S -/
def RowsIn {α : Type} (w : World) (S : Nat → Prop) (k : Nat) (row : α → List Value) (v : Value) (xs : List α) : Prop :=
  ∃ ad c, v = .slice ad xs.length c ∧ xs.length ≤ c ∧ (xs = [] ∨ ∃ g o, ad = some ⟨g, o, none⟩ ∧ S g ∧ ∀ (j : Nat) (x : α), xs[j]? = some x → ∀ (i : Nat) (u : Value), (row x)[i]? = some u → w.cell? ⟨g, o + (j * k + i), none⟩ = some u)
theorem RowsIn.old {α : Type} {w w' : World} {S : Nat → Prop} {k : Nat} {row : α → List Value} {v : Value} {xs : List α} (h : RowsIn w S k row v xs) (hb : ∀ b, S b → w'.heap[b]? = w.heap[b]?) : RowsIn w' S k row v xs := by
  obtain ⟨ad, c, hv, hc, h⟩ := h
  refine ⟨ad, c, hv, hc, h.imp id ?_⟩
  rintro ⟨g, o, ha, hg, h⟩
  exact ⟨g, o, ha, hg, fun j x hj i u hu => by rw [World.cell?_of_block (hb g hg)]; exact h j x hj i u hu⟩
theorem RowsIn.more {α : Type} {w : World} {S S' : Nat → Prop} {k : Nat} {row : α → List Value} {v : Value} {xs : List α} (h : RowsIn w S k row v xs) (hb : ∀ b, S b → S' b) : RowsIn w S' k row v xs := by
  obtain ⟨ad, c, hv, hc, h⟩ := h
  refine ⟨ad, c, hv, hc, h.imp id ?_⟩
  rintro ⟨g, o, ha, hg, h⟩
  exact ⟨g, o, ha, hb g hg, h⟩
theorem RowsIn.nil {α : Type} (w : World) (S : Nat → Prop) (k : Nat) (row : α → List Value) (ad : Option Addr) (c : Nat) : RowsIn w S k row (.slice ad 0 c) ([] : List α) := ⟨ad, c, rfl, Nat.zero_le _, .inl rfl⟩
/-- elements of one size, one behind the other -/
theorem flat_at {α : Type} {k : Nat} {row : α → List Value} (hk : ∀ x, (row x).length = k) : ∀ (xs : List α) (j : Nat) (x : α) (i : Nat), i < k → xs[j]? = some x → (xs.flatMap row)[j * k + i]? = (row x)[i]?
  | [], j, x, i, hi, h => by simp at h
  | a :: t, 0, x, i, hi, h => by
    have : a = x := by simpa using h
    subst this
    rw [List.flatMap_cons, Nat.zero_mul, Nat.zero_add, List.getElem?_append_left (by rw [hk]; exact hi)]
  | a :: t, j + 1, x, i, hi, h => by
    rw [List.flatMap_cons, List.getElem?_append_right (by rw [hk, Nat.succ_mul]; omega), hk, show (j + 1) * k + i - k = j * k + i by rw [Nat.succ_mul]; omega]
    exact flat_at hk t j x i hi (by simpa using h)
/-- a slice that the call has made holds its elements -/
theorem rowsIn_own {α : Type} {w : World} {base : Nat} {E : TypeId} {k : Nat} {row : α → List Value} (hk : ∀ x, (row x).length = k) {v : Value} {xs : List α} (h : w.ownsRow base E k v xs.length (xs.flatMap row)) (S : Nat → Prop) (hS : ∀ b, v.ownBlock = some b → S b) : RowsIn w S k row v xs := by
  obtain ⟨hl, ⟨rfl, h0⟩ | ⟨g, cap, cur, rfl, hg, hh, h3, h4, h5, h6⟩⟩ := h
  · exact ⟨none, 0, by rw [h0], by omega, .inl (List.eq_nil_of_length_eq_zero h0)⟩
  · refine ⟨_, cap, rfl, h3, .inr ⟨g, 0, rfl, hS g rfl, fun j x hj i u hu => ?_⟩⟩
    have hi : i < k := by
      have := (List.getElem?_eq_some_iff.1 hu).1
      rw [hk] at this; exact this
    have e := flat_at hk xs j x i hi hj
    have hjl := (List.getElem?_eq_some_iff.1 hj).1
    have hb : j * k + i < xs.length * k := by
      have : (j + 1) * k ≤ xs.length * k := Nat.mul_le_mul_right k hjl
      rw [Nat.succ_mul] at this
      omega
    rw [← h6, List.getElem?_take, if_pos (by omega), hu] at e
    simp only [World.cell?, hh]
    rw [Nat.zero_add]
    simpa using e
end Go.Proofs.YtkhnicppcbgdiaaGreatDoor
namespace Go.Proofs.YtkhnicppcbgdiaaGreatDoor
set_option linter.unusedVariables false
open Go.ChangeShapes Go.WideShapes Go.ChangeAt Go.RowKit

theorem setCell_heap {w : World} {R j : Nat} {cs : Array Value} {t : TypeId} {fr : Nat × Nat} (h : w.heap[R]? = some (.cells cs t fr)) (x : Value) : (w.setCell ⟨R, j, none⟩ x).heap[R]? = some (.cells (cs.setIfInBounds j x) t fr) := by
  rw [setCell_eq_setRow _ _ _ _ _ _ _ h, setRow_heap w R _ _ _ _ h]
theorem alloc_heap_old (w : World) (o : Obj) (k : Nat) (h : k < w.heap.size) : (w.alloc o).heap[k]? = w.heap[k]? := Below.heap_alloc w o k h
theorem alloc_heap_new (w : World) (o : Obj) : (w.alloc o).heap[w.heap.size]? = some o := by
  show (w.heap.push o)[w.heap.size]? = _
  simp
theorem grownBy_below {w w' : World} (h : Below w.heap.size w w') (row : Option Nat) : w.grownBy w' row := ⟨h.os, h.tape, h.output, h.size, fun k hk _ => h.block k hk⟩
theorem own_block {w : World} {base : Nat} {E : TypeId} {k n : Nat} {v : Value} {xs : List Value} (h : w.ownsRow base E k v n xs) : ∀ b, v.ownBlock = some b → base ≤ b ∧ b < w.heap.size := by
  intro b hb
  obtain ⟨_, ⟨rfl, _⟩ | ⟨g, cap, cur, rfl, hg, hh, _⟩⟩ := h
  · simp [Value.ownBlock] at hb
  · simp [Value.ownBlock] at hb
    have := (Array.getElem?_eq_some_iff.1 hh).1
    omega
theorem own_slice {w : World} {base : Nat} {E : TypeId} {k n : Nat} {v : Value} {xs : List Value} (h : w.ownsRow base E k v n xs) : ∃ a c, v = .slice a n c := by
  obtain ⟨_, ⟨rfl, h0⟩ | ⟨g, cap, cur, rfl, _⟩⟩ := h
  · exact ⟨none, 0, by rw [h0]⟩
  · exact ⟨_, _, rfl⟩
theorem own_keep {w w' : World} {base : Nat} {E : TypeId} {k n : Nat} {v : Value} {xs : List Value} (h : w.ownsRow base E k v n xs) (hh : ∀ b, v.ownBlock = some b → w'.heap[b]? = w.heap[b]?) : w'.ownsRow base E k v n xs := by
  obtain ⟨h1, h2 | ⟨g, cap, cur, hv, hg, hhp, r⟩⟩ := h
  · exact ⟨h1, .inl h2⟩
  · exact ⟨h1, .inr ⟨g, cap, cur, hv, hg, by rw [hh g (by rw [hv]; rfl)]; exact hhp, r⟩⟩
end Go.Proofs.YtkhnicppcbgdiaaGreatDoor
