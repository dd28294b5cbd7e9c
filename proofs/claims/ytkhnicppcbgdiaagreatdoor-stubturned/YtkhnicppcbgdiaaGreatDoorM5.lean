/-
  What stands between dots, and which texts are names and paths: plain words and their facts. Nothing is proved of the program here.
  The walks over the program's own reader: want, name and number.
  The walks over the program's own stripFields, stripValues and stripMethods.
  Where no two declarations have one whole name, and they are formed, what the program's Find answers is what the document's says. Plain functions: nothing is proved of the program here.
  Schemas as plain data, and what the document's rounds say of declarations. Nothing is proved of the program here.
  The walks over the program's own Same of declarations.
  What the library functions that this program calls answer, as theorems over this translation: each is one application of a theorem of the given library. Nothing is proved of the program itself here.
-/
import Derived.Test.YtkhnicppcbgdiaaGreatDoorM0
import Derived.Test.YtkhnicppcbgdiaaGreatDoorM4
import Derived.Lib.Split
import Derived.Lib.IndexMore
import Derived.Test.YtkhnicppcbgdiaaGreatDoorProg
import Derived.Test.YtkhnicppcbgdiaaGreatDoorM2
import Derived.Deep.Cut
import Derived.Deep.DeepCutAuto
import Derived.Deep.RegionHeldLaw
import Derived.Deep.RegionLaw
import Derived.Deep.RegionWith
import Derived.Lib.ItoaMem
import Derived.Lib.ItoaLen
import Derived.Lib.SlicesS
import Derived.Shelf.Strings.Search3
import Derived.Shelf.Strings.Split
import Derived.Shelf.LaysM
import Derived.Ground.NamesProg
namespace Go.Proofs.YtkhnicppcbgdiaaGreatDoor
set_option linter.unusedVariables false

/-- the pieces between dots; cur: what the piece at hand has so far -/
def pcs : List UInt8 → List UInt8 → List (List UInt8)
  | cur, [] => [cur]
  | cur, b :: t => if b = 46 then cur :: pcs [] t else pcs (cur ++ [b]) t
theorem pcs_dot (cur t : List UInt8) : pcs cur (46 :: t) = cur :: pcs [] t := by rw [pcs, if_pos rfl]
theorem pcs_on (cur t : List UInt8) (b : UInt8) (h : b ≠ 46) : pcs cur (b :: t) = pcs (cur ++ [b]) t := by rw [pcs, if_neg h]
theorem pcs_len : ∀ (l cur : List UInt8), 1 ≤ (pcs cur l).length ∧ (pcs cur l).length ≤ l.length + 1
  | [], cur => by simp [pcs]
  | b :: t, cur => by
    have h1 := pcs_len t []; have h2 := pcs_len t (cur ++ [b])
    rw [pcs]; split <;> simp <;> omega
/-- no dot ahead of i, one at i -/
theorem pcs_hit : ∀ (l cur : List UInt8) (i : Nat), l[i]? = some 46 → (∀ j : Nat, j < i → l[j]? ≠ some 46) → pcs cur l = (cur ++ l.take i) :: pcs [] (l.drop (i + 1))
  | [], cur, i, h, _ => by simp at h
  | b :: t, cur, 0, h, _ => by
    simp at h; subst h; rw [pcs_dot]; simp
  | b :: t, cur, i + 1, h, hn => by
    have hb : b ≠ 46 := by intro e; exact hn 0 (by omega) (by simp [e])
    rw [pcs_on _ _ _ hb, pcs_hit t (cur ++ [b]) i (by simpa using h) (fun j hj => by have := hn (j + 1) (by omega); simpa using this)]
    simp
theorem pcs_miss : ∀ (l cur : List UInt8), (∀ j : Nat, l[j]? ≠ some 46) → pcs cur l = [cur ++ l]
  | [], cur, _ => by simp [pcs]
  | b :: t, cur, h => by
    have hb : b ≠ 46 := by intro e; exact h 0 (by simp [e])
    rw [pcs_on _ _ _ hb, pcs_miss t _ (fun j => by have := h (j + 1); simpa using this)]; simp
theorem occ_one (l : List UInt8) (j : Nat) (hj : j < l.length) : Lib.occAt l [46] j = decide (l[j]? = some 46) := by
  rw [Lib.occAt_iff_take _ _ _ (by simp; omega)]
  have e : (l.drop j).take [(46 : UInt8)].length = [l[j]] := by
    rw [List.drop_eq_getElem_cons hj]; rfl
  rw [e, List.getElem?_eq_getElem hj, Bool.eq_iff_iff, beq_iff_eq, decide_eq_true_iff]
  simp
theorem index_dot (l : List UInt8) : (Lib.index l [46] = -1 ∧ ∀ j : Nat, l[j]? ≠ some 46) ∨ ∃ i : Nat, Lib.index l [46] = i ∧ l[i]? = some 46 ∧ ∀ j : Nat, j < i → l[j]? ≠ some 46 := by
  rcases Lib.index_spec l [46] with ⟨h1, h2⟩ | ⟨i, h1, h2, h3, h4⟩
  · refine .inl ⟨h1, fun j hj => ?_⟩
    have hjl := (List.getElem?_eq_some_iff.1 hj).1
    have := h2 j (by omega)
    rw [occ_one l j hjl, decide_eq_false_iff_not] at this
    exact this hj
  · have hil : i < l.length := by
      have := Lib.index_room l [46] (by omega)
      simp at this; omega
    rw [occ_one l i hil, decide_eq_true_iff] at h3
    refine .inr ⟨i, h1, h3, fun j hj hj2 => ?_⟩
    have hjl : j < l.length := by omega
    have := h4 j hj
    rw [occ_one l j hjl, decide_eq_false_iff_not] at this
    exact this hj2
/-- cut at the first k dots at most -/
theorem splitK_pcs : ∀ (k : Nat) (l : List UInt8), ((pcs [] l).length ≤ k + 1 → Lib.splitK [46] 0 k l = pcs [] l) ∧ (k + 1 < (pcs [] l).length → (Lib.splitK [46] 0 k l).length = k + 1)
  | 0, l => by
    refine ⟨fun h => ?_, fun _ => rfl⟩
    rw [Lib.splitK]
    rcases index_dot l with ⟨_, h2⟩ | ⟨i, _, h2, h3⟩
    · rw [pcs_miss l [] h2]; rfl
    · rw [pcs_hit l [] i h2 h3] at h
      have := (pcs_len (l.drop (i + 1)) []).1
      rw [List.length_cons] at h; omega
  | k + 1, l => by
    rcases index_dot l with ⟨h1, h2⟩ | ⟨i, h1, h2, h3⟩
    · rw [pcs_miss l [] h2]
      refine ⟨fun _ => ?_, fun h => by simp at h⟩
      rw [Lib.splitK, if_pos (by rw [h1]; rfl)]; rfl
    · have hm : ¬ (Lib.index l [46] == -1) = true := fun e => by have := beq_iff_eq.1 e; omega
      have e : (Lib.index l [46]).toNat = i := by omega
      obtain ⟨ih1, ih2⟩ := splitK_pcs k (l.drop (i + 1))
      rw [pcs_hit l [] i h2 h3, Lib.splitK, if_neg hm, e]
      simp only [List.length_cons, List.nil_append, Nat.add_zero, List.length_nil]
      refine ⟨fun h => ?_, fun h => ?_⟩
      · rw [ih1 (by omega)]
      · rw [ih2 (by omega)]
/-- a name that isn't reserved -/
def plainL (l : List UInt8) : Bool := nameOf (runes ⟨l.toArray⟩) && !resOf l
/-- at most 8 such names, joined by dots -/
def pathOK (l : List UInt8) : Bool := decide ((pcs [] l).length ≤ 8) && (pcs [] l).all plainL
def numOK (n : Int) : Bool := decide (0 ≤ n ∧ n ≤ 2147483647)
end Go.Proofs.YtkhnicppcbgdiaaGreatDoor
namespace Go.Proofs.YtkhnicppcbgdiaaGreatDoor
set_option linter.unusedVariables false
open Go.ChangeShapes Go.WideShapes Go.ChangeAt Go.RowKit

set_option maxHeartbeats 2000000 in
theorem reservedD_any (s : ByteArray) (w : World) :
    Calls Tryz.prog 81 #[.string s] w fun e w' => e = .returned (.bool (resOf s.toList)) ∧ w' = w := by
  go_enter Tryz.func81, Tryz.ntmps81
  go_wp2
  all_goals
    go_ret
    refine ⟨retB ?_, rfl⟩
    unfold resOf scalarOf
    first
      | (simp [*]; done)
      | simp_all
end Go.Proofs.YtkhnicppcbgdiaaGreatDoor
namespace Go.Proofs.YtkhnicppcbgdiaaGreatDoor
set_option linter.unusedVariables false
open Go.ChangeShapes Go.WideShapes Go.ChangeAt Go.RowKit

theorem cloneB_any (s : ByteArray) (w : World) (hs : s.size ≤ 281474976710656) :
    Calls Tryz.prog 61 #[.string s] w fun e w' => e = .returned (.string s) ∧ Below w.heap.size w w' := by
  have h := stringslite_Clone s w hs
  go_enter Tryz.func61, Tryz.ntmps61
  go_wp2_with fail
  refine h.mono ?_
  rintro e w1 ⟨rfl, hb⟩
  go_wp2_with fail
  go_ret
  exact ⟨rfl, hb⟩
end Go.Proofs.YtkhnicppcbgdiaaGreatDoor
namespace Go.Proofs.YtkhnicppcbgdiaaGreatDoor
set_option linter.unusedVariables false

/-- what stands ahead of the names in a scope -/
def ahead (S : List UInt8) : List UInt8 := if S = [] then [] else S ++ [46]
end Go.Proofs.YtkhnicppcbgdiaaGreatDoor
namespace Go.Proofs.YtkhnicppcbgdiaaGreatDoor
set_option linter.unusedVariables false

structure FD where
  num : Int
  name : List UInt8
  kind : Int
  rep : Bool
  type : Int
structure MD where
  name : List UInt8
  fields : List FD
structure VD where
  name : List UInt8
  num : Int
structure ED where
  name : List UInt8
  values : List VD
structure TD where
  id : Int
  service : List UInt8
  name : List UInt8
  inp : Int
  out : Int
structure SC where
  ms : List MD
  es : List ED
  ts : List TD
theorem take_snoc {α : Type} {l : List α} {j : Nat} {x : α} (h : l[j]? = some x) : l.take (j + 1) = l.take j ++ [x] := by
  rw [List.take_add_one, h]; rfl

def fnOK (n : Int) : Bool := decide (1 ≤ n ∧ n ≤ 536870911 ∧ (n < 19000 ∨ 19999 < n))
/-! the tables -/
/-! rings -/
def Goes (ms : List MD) (a b : Nat) : Prop := ∃ m, ms[a]? = some m ∧ ∃ f, f ∈ m.fields ∧ f.kind = 10 ∧ f.rep = false ∧ f.type = (b : Int)
def Ring (ms : List MD) (t : Nat) : Prop := Relation.TransGen (Goes ms) t t
end Go.Proofs.YtkhnicppcbgdiaaGreatDoor
namespace Go.Proofs.YtkhnicppcbgdiaaGreatDoor
set_option linter.unusedVariables false
open Go.ChangeShapes Go.WideShapes Go.ChangeAt Go.RowKit

theorem RowsIn.isSl {α : Type} {w : World} {S : Nat → Prop} {k : Nat} {row : α → List Value} {v : Value} {xs : List α} (h : RowsIn w S k row v xs) : ∃ ad c, v = .slice ad xs.length c := by
  obtain ⟨ad, c, hv, _⟩ := h; exact ⟨ad, c, hv⟩
end Go.Proofs.YtkhnicppcbgdiaaGreatDoor
namespace Go.Proofs.YtkhnicppcbgdiaaGreatDoor
open Go.Shelf
def lays143_ren : Go.Shelf.Ren := ⟨fun | 143 => 99 | 219 => 90 | 217 => 106 | 225 => 107 | 224 => 108 | 267 => 109 | 266 => 121 | 314 => 122 | n => n, fun | 9 => 9 | 3 => 3 | 4 => 4 | 5 => 5 | 46 => 40 | 146 => 155 | 51 => 133 | n => n, fun | 1 => 2 | n => n⟩
theorem lays143 : Go.Proofs.Lays.n143 Tryz.prog lays143_ren := {
  mixed := by kernel_rfl
  f143 := Tryz.func99.trans (congrArg some (by kernel_rfl))
  f217 := Tryz.func106.trans (congrArg some (by kernel_rfl))
  f219 := Tryz.func90.trans (congrArg some (by kernel_rfl))
  f224 := Tryz.func108.trans (congrArg some (by kernel_rfl))
  f225 := Tryz.func107.trans (congrArg some (by kernel_rfl))
  f266 := Tryz.func121.trans (congrArg some (by kernel_rfl))
  f267 := Tryz.func109.trans (congrArg some (by kernel_rfl))
  f314 := Tryz.func122.trans (congrArg some (by kernel_rfl))
  t3 := Tryz.underlying3
  a3 := Tryz.isAgg3
  z3 := Tryz.sizeOf3
  v3 := Tryz.zeroValue3
  t4 := Tryz.underlying4
  a4 := Tryz.isAgg4
  z4 := Tryz.sizeOf4
  v4 := Tryz.zeroValue4
  t5 := Tryz.underlying5
  a5 := Tryz.isAgg5
  z5 := Tryz.sizeOf5
  v5 := Tryz.zeroValue5
  t9 := Tryz.underlying9
  a9 := Tryz.isAgg9
  z9 := Tryz.sizeOf9
  v9 := Tryz.zeroValue9
  t46 := Tryz.underlying40
  a46 := Tryz.isAgg40
  z46 := Tryz.sizeOf40
  v46 := Tryz.zeroValue40
  t51 := Tryz.underlying133
  a51 := Tryz.isAgg133
  z51 := Tryz.sizeOf133
  v51 := Tryz.zeroValue133
  t146 := Tryz.underlying155
  a146 := Tryz.isAgg155
  z146 := Tryz.sizeOf155
  v146 := Tryz.zeroValue155
  g1 := by kernel_rfl }
open Go.RowKit Go.Lib in
theorem strings_Index_one (s : ByteArray) (c : UInt8) (w : World) :
    Calls Tryz.prog 99 #[.string s, .string ⟨#[c]⟩] w fun e w' => e = .returned (.int .i64 (Lib.indexByte s.data.toList c)) ∧ w' = w := Any.strings_Index_one lays143 s c w
def lays221_ren : Go.Shelf.Ren := ⟨fun | 221 => 111 | 268 => 123 | 138 => 97 | 143 => 99 | 195 => 112 | 197 => 100 | 218 => 113 | 219 => 90 | 260 => 115 | 217 => 106 | 225 => 107 | 224 => 108 | 267 => 109 | 266 => 121 | 314 => 122 | n => n, fun | 9 => 9 | 3 => 3 | 31 => 86 | 4 => 4 | 0 => 0 | 105 => 135 | 21 => 21 | 5 => 5 | 46 => 40 | 119 => 144 | 139 => 147 | 138 => 146 | 146 => 155 | 51 => 133 | n => n, fun | 1 => 2 | 3 => 0 | 4 => 1 | n => n⟩
theorem lays221 : Go.Proofs.Lays.n221 Tryz.prog lays221_ren := {
  mixed := by kernel_rfl
  f138 := Tryz.func97.trans (congrArg some (by kernel_rfl))
  f143 := Tryz.func99.trans (congrArg some (by kernel_rfl))
  f195 := Tryz.func112.trans (congrArg some (by kernel_rfl))
  f197 := Tryz.func100.trans (congrArg some (by kernel_rfl))
  f217 := Tryz.func106.trans (congrArg some (by kernel_rfl))
  f218 := Tryz.func113.trans (congrArg some (by kernel_rfl))
  f219 := Tryz.func90.trans (congrArg some (by kernel_rfl))
  f221 := Tryz.func111.trans (congrArg some (by kernel_rfl))
  f224 := Tryz.func108.trans (congrArg some (by kernel_rfl))
  f225 := Tryz.func107.trans (congrArg some (by kernel_rfl))
  f260 := Tryz.func115.trans (congrArg some (by kernel_rfl))
  f266 := Tryz.func121.trans (congrArg some (by kernel_rfl))
  f267 := Tryz.func109.trans (congrArg some (by kernel_rfl))
  f268 := Tryz.func123.trans (congrArg some (by kernel_rfl))
  f314 := Tryz.func122.trans (congrArg some (by kernel_rfl))
  t0 := Tryz.underlying0
  a0 := Tryz.isAgg0
  z0 := Tryz.sizeOf0
  v0 := Tryz.zeroValue0
  t3 := Tryz.underlying3
  a3 := Tryz.isAgg3
  z3 := Tryz.sizeOf3
  v3 := Tryz.zeroValue3
  t4 := Tryz.underlying4
  a4 := Tryz.isAgg4
  z4 := Tryz.sizeOf4
  v4 := Tryz.zeroValue4
  t5 := Tryz.underlying5
  a5 := Tryz.isAgg5
  z5 := Tryz.sizeOf5
  v5 := Tryz.zeroValue5
  t9 := Tryz.underlying9
  a9 := Tryz.isAgg9
  z9 := Tryz.sizeOf9
  v9 := Tryz.zeroValue9
  t21 := Tryz.underlying21
  a21 := Tryz.isAgg21
  z21 := Tryz.sizeOf21
  v21 := Tryz.zeroValue21
  t31 := Tryz.underlying86
  a31 := Tryz.isAgg86
  z31 := Tryz.sizeOf86
  v31 := Tryz.zeroValue86
  t46 := Tryz.underlying40
  a46 := Tryz.isAgg40
  z46 := Tryz.sizeOf40
  v46 := Tryz.zeroValue40
  t51 := Tryz.underlying133
  a51 := Tryz.isAgg133
  z51 := Tryz.sizeOf133
  v51 := Tryz.zeroValue133
  t105 := Tryz.underlying135
  a105 := Tryz.isAgg135
  z105 := Tryz.sizeOf135
  v105 := Tryz.zeroValue135
  t119 := Tryz.underlying144
  a119 := Tryz.isAgg144
  z119 := Tryz.sizeOf144
  t138 := Tryz.underlying146
  a138 := Tryz.isAgg146
  z138 := Tryz.sizeOf146
  v138 := Tryz.zeroValue146
  t139 := Tryz.underlying147
  a139 := Tryz.isAgg147
  z139 := Tryz.sizeOf147
  v139 := Tryz.zeroValue147
  t146 := Tryz.underlying155
  a146 := Tryz.isAgg155
  z146 := Tryz.sizeOf155
  v146 := Tryz.zeroValue155
  g1 := by kernel_rfl
  g3 := by kernel_rfl
  g4 := by kernel_rfl }
open Go.RowKit Go.Lib in
theorem strings_genSplit (s sep : ByteArray) (sv : Nat) (n : Int) (N : Nat) (m : Int) (w : World) (hs : s.size < 4294967281) (hm : w.cell? ⟨2, 0, none⟩ = some (.int .i64 m)) (h1 : 1 ≤ sep.size) (hsv : sv ≤ sep.size) (hn0 : n ≠ 0) (hn63 : n ≤ 9223372036854775807) (hN : (N : Int) = min (if n < 0 then (Lib.countB s sep : Int) + 1 else n) ((s.size : Int) + 1)) :
    Calls Tryz.prog 111 #[.string s, .string sep, .int .i64 sv, .int .i64 n] w fun e w' =>
      e = .returned (.slice (some ⟨w.heap.size, 0, none⟩) (Lib.splitB sep sv (N - 1) s).length N) ∧ w' = w.alloc (.cells (Lib.cellsOf (Lib.splitB sep sv (N - 1) s) N) 9) := Any.strings_genSplit lays221 (by kernel_rfl) s sep sv n N m w hs hm h1 hsv hn0 hn63 hN
end Go.Proofs.YtkhnicppcbgdiaaGreatDoor
