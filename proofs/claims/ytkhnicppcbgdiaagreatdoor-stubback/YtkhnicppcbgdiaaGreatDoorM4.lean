/-
  How the program goes along a text, rune by rune, held against the words of the text: plain words over bytes. Nothing is proved of the program here.
  The walks over the program's own remarkSize, nameSize, numberSize, take and behind.
  The walk over the program's own Words: the words of a text, or its error, and place.
  Which words are types, and which are reserved. Nothing is proved of the program here.
  Declarations in memory: what their cells hold, whichever blocks they lie in. Nothing is proved of the program here.
  Words and slices in memory, and steps of the plain reader: what the walks share. Nothing is proved of the program here.
  What stands between dots, and which texts are names and paths: plain words and their facts. Nothing is proved of the program here.
  The walks over the program's own reader: want, name and number.
  The walks over the program's own stripFields, stripValues and stripMethods.
  Where no two declarations have one whole name, and they are formed, what the program's Find answers is what the document's says. Plain functions: nothing is proved of the program here.
-/
import Derived.Test.YtkhnicppcbgdiaaGreatDoorM0
import Derived.Lib.ParseIntB
import Derived.Lib.Bytealg
import Derived.Test.YtkhnicppcbgdiaaGreatDoorM3
import Derived.Test.YtkhnicppcbgdiaaGreatDoorM2
import Derived.Test.YtkhnicppcbgdiaaGreatDoorProg
import Derived.Deep.RegionHeldLaw
import Derived.Deep.DeepCutAuto
import Derived.Lib.IndexBytes
import Derived.Laws.AppendOwn
import Derived.OwnWalk
import Derived.Deep.AppendLies
import Derived.WalkSmall
import Derived.Lib.OthersKept
import Derived.Deep.RegionWith
import Derived.Deep.QuietTactic
import Derived.BigQuiet
import Derived.Deep.RegionLaw
import Derived.Below
import Derived.WalkKit
import Derived.Maps.AppendAt
import Derived.Lib.Hide
import Derived.Lib.Split
import Derived.Lib.IndexMore
import Derived.Deep.Cut
import Derived.Lib.ItoaMem
import Derived.Lib.ItoaLen
namespace Go.Proofs.YtkhnicppcbgdiaaGreatDoor
set_option linter.unusedVariables false

/-- the rune at the head, as a range over the text has it -/
def rn (l : List UInt8) : Int := ((Lib.decodeL l).1 : Int)
end Go.Proofs.YtkhnicppcbgdiaaGreatDoor
namespace Go.Proofs.YtkhnicppcbgdiaaGreatDoor
set_option linter.unusedVariables false
open Go.ChangeShapes Go.WideShapes Go.ChangeAt Go.RowKit

theorem mkB_size (l : List UInt8) : (mkB l).size = l.length := by
  have := len_data (mkB l)
  rw [← this]; rfl
end Go.Proofs.YtkhnicppcbgdiaaGreatDoor
namespace Go.Proofs.YtkhnicppcbgdiaaGreatDoor
set_option linter.unusedVariables false
open Go.ChangeShapes Go.WideShapes Go.ChangeAt Go.RowKit

set_option maxHeartbeats 2000000 in
theorem clone_any (s : ByteArray) (w : World) (hs : s.size ≤ 1048576) :
    Calls Tryz.prog 61 #[.string s] w fun e w' => e = .returned (.string s) ∧ Below w.heap.size w w' := by
  have h := stringslite_Clone s w (by omega)
  go_enter Tryz.func61, Tryz.ntmps61
  go_wp2_with fail
  refine h.mono ?_
  rintro e w1 ⟨rfl, hb⟩
  go_wp2_with fail
  go_ret
  exact ⟨rfl, hb⟩
end Go.Proofs.YtkhnicppcbgdiaaGreatDoor
namespace Go.Proofs.YtkhnicppcbgdiaaGreatDoor
set_option linter.unusedVariables false

/-- the kind of a type by a word; 0: it is none -/
def scalarOf (l : List UInt8) : Int :=
  if (l == [105, 110, 116, 54, 52]) = true then 1 else if (l == [117, 105, 110, 116, 54, 52]) = true then 2 else if (l == [115, 105, 110, 116, 54, 52]) = true then 3
  else if (l == [98, 111, 111, 108]) = true then 4 else if (l == [115, 116, 114, 105, 110, 103]) = true then 5 else if (l == [98, 121, 116, 101, 115]) = true then 6
  else if (l == [102, 105, 120, 101, 100, 51, 50]) = true then 7 else if (l == [102, 105, 120, 101, 100, 54, 52]) = true then 8 else 0
/-- whether a word is reserved -/
def resOf (l : List UInt8) : Bool :=
  l == [109, 101, 115, 115, 97, 103, 101] || l == [101, 110, 117, 109] || l == [115, 101, 114, 118, 105, 99, 101] || l == [114, 112, 99] || l == [114, 101, 116, 117, 114, 110, 115] || l == [114, 101, 112, 101, 97, 116, 101, 100] || decide (0 < scalarOf l)
end Go.Proofs.YtkhnicppcbgdiaaGreatDoor
namespace Go.Proofs.YtkhnicppcbgdiaaGreatDoor
set_option linter.unusedVariables false
open Go.RowKit

/-- a slice's elements lie in memory, in a block of S -/
def RowsIn {α : Type} (w : World) (S : Nat → Prop) (k : Nat) (row : α → List Value) (v : Value) (xs : List α) : Prop :=
  ∃ ad c, v = .slice ad xs.length c ∧ xs.length ≤ c ∧ (xs = [] ∨ ∃ g o, ad = some ⟨g, o, none⟩ ∧ S g ∧ ∀ (j : Nat) (x : α), xs[j]? = some x → ∀ (i : Nat) (u : Value), (row x)[i]? = some u → w.cell? ⟨g, o + (j * k + i), none⟩ = some u)
theorem RowsIn.old {α : Type} {w w' : World} {S : Nat → Prop} {k : Nat} {row : α → List Value} {v : Value} {xs : List α} (h : RowsIn w S k row v xs) (hb : ∀ b, S b → w'.heap[b]? = w.heap[b]?) : RowsIn w' S k row v xs := by
  obtain ⟨ad, c, hv, hc, h⟩ := h
  refine ⟨ad, c, hv, hc, h.imp id ?_⟩
  rintro ⟨g, o, ha, hg, h⟩
  exact ⟨g, o, ha, hg, fun j x hj i u hu => by rw [World.cell?_of_block (hb g hg)]; exact h j x hj i u hu⟩
theorem RowsIn.more {α : Type} {w : World} {S S' : Nat → Prop} {k : Nat} {row : α → List Value} {v : Value} {xs : List α} (h : RowsIn w S k row v xs) (hb : ∀ b, S b → S' b) : RowsIn w S' k row v xs := by
  obtain ⟨ad, c, hv, hc, h⟩ := h
  refine ⟨ad, c, hv, hc, h.imp id ?_⟩
  rintro ⟨g, o, ha, hg, h⟩
  exact ⟨g, o, ha, hb g hg, h⟩
theorem RowsIn.nil {α : Type} (w : World) (S : Nat → Prop) (k : Nat) (row : α → List Value) (ad : Option Addr) (c : Nat) : RowsIn w S k row (.slice ad 0 c) ([] : List α) := ⟨ad, c, rfl, Nat.zero_le _, .inl rfl⟩
/-- elements of one size, one behind the other -/
theorem flat_at {α : Type} {k : Nat} {row : α → List Value} (hk : ∀ x, (row x).length = k) : ∀ (xs : List α) (j : Nat) (x : α) (i : Nat), i < k → xs[j]? = some x → (xs.flatMap row)[j * k + i]? = (row x)[i]?
  | [], j, x, i, hi, h => by simp at h
  | a :: t, 0, x, i, hi, h => by
    have : a = x := by simpa using h
    subst this
    rw [List.flatMap_cons, Nat.zero_mul, Nat.zero_add, List.getElem?_append_left (by rw [hk]; exact hi)]
  | a :: t, j + 1, x, i, hi, h => by
    rw [List.flatMap_cons, List.getElem?_append_right (by rw [hk, Nat.succ_mul]; omega), hk, show (j + 1) * k + i - k = j * k + i by rw [Nat.succ_mul]; omega]
    exact flat_at hk t j x i hi (by simpa using h)
/-- a slice that the call has made holds its elements -/
theorem rowsIn_own {α : Type} {w : World} {base : Nat} {E : TypeId} {k : Nat} {row : α → List Value} (hk : ∀ x, (row x).length = k) {v : Value} {xs : List α} (h : w.ownsRow base E k v xs.length (xs.flatMap row)) (S : Nat → Prop) (hS : ∀ b, v.ownBlock = some b → S b) : RowsIn w S k row v xs := by
  obtain ⟨hl, ⟨rfl, h0⟩ | ⟨g, cap, cur, rfl, hg, hh, h3, h4, h5, h6⟩⟩ := h
  · exact ⟨none, 0, by rw [h0], by omega, .inl (List.eq_nil_of_length_eq_zero h0)⟩
  · refine ⟨_, cap, rfl, h3, .inr ⟨g, 0, rfl, hS g rfl, fun j x hj i u hu => ?_⟩⟩
    have hi : i < k := by
      have := (List.getElem?_eq_some_iff.1 hu).1
      rw [hk] at this; exact this
    have e := flat_at hk xs j x i hi hj
    have hjl := (List.getElem?_eq_some_iff.1 hj).1
    have hb : j * k + i < xs.length * k := by
      have : (j + 1) * k ≤ xs.length * k := Nat.mul_le_mul_right k hjl
      rw [Nat.succ_mul] at this
      omega
    rw [← h6, List.getElem?_take, if_pos (by omega), hu] at e
    simp only [World.cell?, hh]
    rw [Nat.zero_add]
    simpa using e
end Go.Proofs.YtkhnicppcbgdiaaGreatDoor
namespace Go.Proofs.YtkhnicppcbgdiaaGreatDoor
set_option linter.unusedVariables false
open Go.ChangeShapes Go.WideShapes Go.ChangeAt Go.RowKit

theorem setCell_heap {w : World} {R j : Nat} {cs : Array Value} {t : TypeId} {fr : Nat × Nat} (h : w.heap[R]? = some (.cells cs t fr)) (x : Value) : (w.setCell ⟨R, j, none⟩ x).heap[R]? = some (.cells (cs.setIfInBounds j x) t fr) := by
  rw [setCell_eq_setRow _ _ _ _ _ _ _ h, setRow_heap w R _ _ _ _ h]
theorem alloc_heap_old (w : World) (o : Obj) (k : Nat) (h : k < w.heap.size) : (w.alloc o).heap[k]? = w.heap[k]? := Below.heap_alloc w o k h
theorem alloc_heap_new (w : World) (o : Obj) : (w.alloc o).heap[w.heap.size]? = some o := by
  show (w.heap.push o)[w.heap.size]? = _
  simp
theorem grownBy_below {w w' : World} (h : Below w.heap.size w w') (row : Option Nat) : w.grownBy w' row := ⟨h.os, h.tape, h.output, h.size, fun k hk _ => h.block k hk⟩
theorem own_block {w : World} {base : Nat} {E : TypeId} {k n : Nat} {v : Value} {xs : List Value} (h : w.ownsRow base E k v n xs) : ∀ b, v.ownBlock = some b → base ≤ b ∧ b < w.heap.size := by
  intro b hb
  obtain ⟨_, ⟨rfl, _⟩ | ⟨g, cap, cur, rfl, hg, hh, _⟩⟩ := h
  · simp [Value.ownBlock] at hb
  · simp [Value.ownBlock] at hb
    have := (Array.getElem?_eq_some_iff.1 hh).1
    omega
theorem own_slice {w : World} {base : Nat} {E : TypeId} {k n : Nat} {v : Value} {xs : List Value} (h : w.ownsRow base E k v n xs) : ∃ a c, v = .slice a n c := by
  obtain ⟨_, ⟨rfl, h0⟩ | ⟨g, cap, cur, rfl, _⟩⟩ := h
  · exact ⟨none, 0, by rw [h0]⟩
  · exact ⟨_, _, rfl⟩
theorem own_keep {w w' : World} {base : Nat} {E : TypeId} {k n : Nat} {v : Value} {xs : List Value} (h : w.ownsRow base E k v n xs) (hh : ∀ b, v.ownBlock = some b → w'.heap[b]? = w.heap[b]?) : w'.ownsRow base E k v n xs := by
  obtain ⟨h1, h2 | ⟨g, cap, cur, hv, hg, hhp, r⟩⟩ := h
  · exact ⟨h1, .inl h2⟩
  · exact ⟨h1, .inr ⟨g, cap, cur, hv, hg, by rw [hh g (by rw [hv]; rfl)]; exact hhp, r⟩⟩
end Go.Proofs.YtkhnicppcbgdiaaGreatDoor
namespace Go.Proofs.YtkhnicppcbgdiaaGreatDoor
set_option linter.unusedVariables false

/-- the pieces between dots; cur: what the piece at hand has so far -/
def pcs : List UInt8 → List UInt8 → List (List UInt8)
  | cur, [] => [cur]
  | cur, b :: t => if b = 46 then cur :: pcs [] t else pcs (cur ++ [b]) t
theorem pcs_nil (cur : List UInt8) : pcs cur [] = [cur] := rfl
theorem pcs_dot (cur t : List UInt8) : pcs cur (46 :: t) = cur :: pcs [] t := by rw [pcs, if_pos rfl]
theorem pcs_on (cur t : List UInt8) (b : UInt8) (h : b ≠ 46) : pcs cur (b :: t) = pcs (cur ++ [b]) t := by rw [pcs, if_neg h]
theorem pcs_len : ∀ (l cur : List UInt8), 1 ≤ (pcs cur l).length ∧ (pcs cur l).length ≤ l.length + 1
  | [], cur => by simp [pcs]
  | b :: t, cur => by
    have h1 := pcs_len t []; have h2 := pcs_len t (cur ++ [b])
    rw [pcs]; split <;> simp <;> omega
/-- joined by dots -/
def jn : List (List UInt8) → List UInt8
  | [] => []
  | [x] => x
  | x :: y :: t => x ++ [46] ++ jn (y :: t)
theorem jn_cons (x : List UInt8) (l : List (List UInt8)) (h : l ≠ []) : jn (x :: l) = x ++ [46] ++ jn l := by
  cases l with
  | nil => exact absurd rfl h
  | cons y t => rfl
theorem jn_pcs : ∀ (l cur : List UInt8), jn (pcs cur l) = cur ++ l
  | [], cur => by simp [pcs, jn]
  | b :: t, cur => by
    by_cases h : b = 46
    · subst h
      rw [pcs_dot, jn_cons _ _ (by intro e; have := (pcs_len t []).1; rw [e] at this; simp at this), jn_pcs t []]; simp
    · rw [pcs_on _ _ _ h, jn_pcs t]; simp
/-- no dot ahead of i, one at i -/
theorem pcs_hit : ∀ (l cur : List UInt8) (i : Nat), l[i]? = some 46 → (∀ j : Nat, j < i → l[j]? ≠ some 46) → pcs cur l = (cur ++ l.take i) :: pcs [] (l.drop (i + 1))
  | [], cur, i, h, _ => by simp at h
  | b :: t, cur, 0, h, _ => by
    simp at h; subst h; rw [pcs_dot]; simp
  | b :: t, cur, i + 1, h, hn => by
    have hb : b ≠ 46 := by intro e; exact hn 0 (by omega) (by simp [e])
    rw [pcs_on _ _ _ hb, pcs_hit t (cur ++ [b]) i (by simpa using h) (fun j hj => by have := hn (j + 1) (by omega); simpa using this)]
    simp
theorem pcs_miss : ∀ (l cur : List UInt8), (∀ j : Nat, l[j]? ≠ some 46) → pcs cur l = [cur ++ l]
  | [], cur, _ => by simp [pcs]
  | b :: t, cur, h => by
    have hb : b ≠ 46 := by intro e; exact h 0 (by simp [e])
    rw [pcs_on _ _ _ hb, pcs_miss t _ (fun j => by have := h (j + 1); simpa using this)]; simp
theorem occ_one (l : List UInt8) (j : Nat) (hj : j < l.length) : Lib.occAt l [46] j = decide (l[j]? = some 46) := by
  rw [Lib.occAt_iff_take _ _ _ (by simp; omega)]
  have e : (l.drop j).take [(46 : UInt8)].length = [l[j]] := by
    rw [List.drop_eq_getElem_cons hj]; rfl
  rw [e, List.getElem?_eq_getElem hj, Bool.eq_iff_iff, beq_iff_eq, decide_eq_true_iff]
  simp
theorem index_dot (l : List UInt8) : (Lib.index l [46] = -1 ∧ ∀ j : Nat, l[j]? ≠ some 46) ∨ ∃ i : Nat, Lib.index l [46] = i ∧ l[i]? = some 46 ∧ ∀ j : Nat, j < i → l[j]? ≠ some 46 := by
  rcases Lib.index_spec l [46] with ⟨h1, h2⟩ | ⟨i, h1, h2, h3, h4⟩
  · refine .inl ⟨h1, fun j hj => ?_⟩
    have hjl := (List.getElem?_eq_some_iff.1 hj).1
    have := h2 j (by omega)
    rw [occ_one l j hjl, decide_eq_false_iff_not] at this
    exact this hj
  · have hil : i < l.length := by
      have := Lib.index_room l [46] (by omega)
      simp at this; omega
    rw [occ_one l i hil, decide_eq_true_iff] at h3
    refine .inr ⟨i, h1, h3, fun j hj hj2 => ?_⟩
    have hjl : j < l.length := by omega
    have := h4 j hj
    rw [occ_one l j hjl, decide_eq_false_iff_not] at this
    exact this hj2
/-- cut at the first k dots at most -/
theorem splitK_pcs : ∀ (k : Nat) (l : List UInt8), ((pcs [] l).length ≤ k + 1 → Lib.splitK [46] 0 k l = pcs [] l) ∧ (k + 1 < (pcs [] l).length → (Lib.splitK [46] 0 k l).length = k + 1)
  | 0, l => by
    refine ⟨fun h => ?_, fun _ => rfl⟩
    rw [Lib.splitK]
    rcases index_dot l with ⟨_, h2⟩ | ⟨i, _, h2, h3⟩
    · rw [pcs_miss l [] h2]; rfl
    · rw [pcs_hit l [] i h2 h3] at h
      have := (pcs_len (l.drop (i + 1)) []).1
      rw [List.length_cons] at h; omega
  | k + 1, l => by
    rcases index_dot l with ⟨h1, h2⟩ | ⟨i, h1, h2, h3⟩
    · rw [pcs_miss l [] h2]
      refine ⟨fun _ => ?_, fun h => by simp at h⟩
      rw [Lib.splitK, if_pos (by rw [h1]; rfl)]; rfl
    · have hm : ¬ (Lib.index l [46] == -1) = true := fun e => by have := beq_iff_eq.1 e; omega
      have e : (Lib.index l [46]).toNat = i := by omega
      obtain ⟨ih1, ih2⟩ := splitK_pcs k (l.drop (i + 1))
      rw [pcs_hit l [] i h2 h3, Lib.splitK, if_neg hm, e]
      simp only [List.length_cons, List.nil_append, Nat.add_zero, List.length_nil]
      refine ⟨fun h => ?_, fun h => ?_⟩
      · rw [ih1 (by omega)]
      · rw [ih2 (by omega)]
/-- a name that isn't reserved -/
def plainL (l : List UInt8) : Bool := nameOf (runes ⟨l.toArray⟩) && !resOf l
/-- at most 8 such names, joined by dots -/
def pathOK (l : List UInt8) : Bool := decide ((pcs [] l).length ≤ 8) && (pcs [] l).all plainL
def numOK (n : Int) : Bool := decide (0 ≤ n ∧ n ≤ 2147483647)
end Go.Proofs.YtkhnicppcbgdiaaGreatDoor
namespace Go.Proofs.YtkhnicppcbgdiaaGreatDoor
set_option linter.unusedVariables false
open Go.ChangeShapes Go.WideShapes Go.ChangeAt Go.RowKit

set_option maxHeartbeats 2000000 in
theorem reservedD_any (s : ByteArray) (w : World) :
    Calls Tryz.prog 81 #[.string s] w fun e w' => e = .returned (.bool (resOf s.toList)) ∧ w' = w := by
  go_enter Tryz.func81, Tryz.ntmps81
  go_wp2
  all_goals
    go_ret
    refine ⟨retB ?_, rfl⟩
    unfold resOf scalarOf
    first
      | (simp [*]; done)
      | simp_all
end Go.Proofs.YtkhnicppcbgdiaaGreatDoor
namespace Go.Proofs.YtkhnicppcbgdiaaGreatDoor
set_option linter.unusedVariables false
open Go.ChangeShapes Go.WideShapes Go.ChangeAt Go.RowKit

theorem cloneB_any (s : ByteArray) (w : World) (hs : s.size ≤ 281474976710656) :
    Calls Tryz.prog 61 #[.string s] w fun e w' => e = .returned (.string s) ∧ Below w.heap.size w w' := by
  have h := stringslite_Clone s w hs
  go_enter Tryz.func61, Tryz.ntmps61
  go_wp2_with fail
  refine h.mono ?_
  rintro e w1 ⟨rfl, hb⟩
  go_wp2_with fail
  go_ret
  exact ⟨rfl, hb⟩
end Go.Proofs.YtkhnicppcbgdiaaGreatDoor
namespace Go.Proofs.YtkhnicppcbgdiaaGreatDoor
set_option linter.unusedVariables false

/-- what stands ahead of the names in a scope -/
def ahead (S : List UInt8) : List UInt8 := if S = [] then [] else S ++ [46]
end Go.Proofs.YtkhnicppcbgdiaaGreatDoor
