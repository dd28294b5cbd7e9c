/-
  Values of messages as plain trees, and what fits, as plain functions. Nothing is proved of the program here.
  Of a schema that is formed the program's 'fits' and the document's are one. Nothing is proved of the program here.
  The walks over the program's own Same of declarations.
  What the library functions that this program calls answer, as theorems over this translation: each is one application of a theorem of the given library. Nothing is proved of the program itself here.
  The walk over the library's strings.SplitN at a dot.
-/
import Derived.Test.YtfhmombnipfimabGreatDoorM2
import Derived.Test.YtfhmombnipfimabGreatDoorM5
import Derived.Lib.ValidLaws
import Derived.Test.YtfhmombnipfimabGreatDoorM0
import Derived.Test.YtfhmombnipfimabGreatDoorProg
import Derived.Deep.Cut
import Derived.Deep.DeepCutAuto
import Derived.Lib.SlicesS
import Derived.Shelf.Strings.Search3
import Derived.Shelf.Strings.Split
import Derived.Shelf.LaysM
import Derived.Ground.NamesProg
import Derived.Test.YtfhmombnipfimabGreatDoorM1
import Derived.Lib.IndexBytes
namespace Go.Proofs.YtfhmombnipfimabGreatDoor
set_option linter.unusedVariables false

/-- a value: what it is by its kind (1 to 7), and all that a node can hold -/
structure Nd where
  kind : Int
  n : Int
  u : Int
  b : Bool
  s : List UInt8
  type : Int
  fields : List (Int × List Nd)
def ints (s : List UInt8) : List Int := s.map fun b => (b.toNat : Int)
theorem ints_len (s : List UInt8) : (ints s).length = s.length := by unfold ints; simp
theorem ints_ok (s : List UInt8) : ∀ z ∈ ints s, 0 ≤ z ∧ z ≤ 255 := by
  intro z hz
  unfold ints at hz
  obtain ⟨b, _, rfl⟩ := List.mem_map.1 hz
  have := b.toNat_lt
  omega
/-- the type of a field's value alone: the program's, and the document's -/
def ownT (k : Int) : Int := if k = 1 ∨ k = 2 ∨ k = 3 ∨ k = 4 ∨ k = 9 then 0 else if k = 7 then 5 else if k = 8 then 1 else 2
def typeFits (f : FD) (ty : Int) : Bool := decide (ty = ownT f.kind) || (f.rep && decide (ty = 2))
def knownB (num ty : Int) (f : FD) : Bool := decide (f.num = num) && typeFits f ty
/-- known to the message: the program's -/
def knownP (fs : List FD) (num ty : Int) : Bool := !allB (atB fs fun _ f => !knownB num ty f) fs.length
/-- the first field of that number -/
def isFirst (fs : List FD) (num : Int) (i : Nat) (f : FD) : Prop := fs[i]? = some f ∧ f.num = num ∧ ∀ (j : Nat) (g : FD), j < i → fs[j]? = some g → g.num ≠ num
def NoField (fs : List FD) (num : Int) : Prop := ∀ (j : Nat) (g : FD), fs[j]? = some g → g.num ≠ num
def firstF : List FD → Int → Option FD
  | [], _ => none
  | f :: t, num => if f.num = num then some f else firstF t num
theorem firstF_is : ∀ {fs : List FD} {num : Int} {i : Nat} {f : FD}, isFirst fs num i f → firstF fs num = some f
  | [], num, i, f, h => by have := h.1; simp at this
  | x :: t, num, 0, f, h => by
    have e : x = f := by simpa using h.1
    subst e
    rw [firstF, if_pos h.2.1]
  | x :: t, num, i + 1, f, h => by
    rw [firstF, if_neg (h.2.2 0 x (by omega) rfl)]
    exact firstF_is ⟨by simpa using h.1, h.2.1, fun j g hj hg => h.2.2 (j + 1) g (by omega) (by simpa using hg)⟩
theorem firstF_no : ∀ {fs : List FD} {num : Int}, NoField fs num → firstF fs num = none
  | [], num, h => rfl
  | x :: t, num, h => by
    rw [firstF, if_neg (h 0 x rfl)]
    exact firstF_no fun j g hg => h (j + 1) g (by simpa using hg)
theorem firstF_some : ∀ {fs : List FD} {num : Int} {f : FD}, firstF fs num = some f → f ∈ fs ∧ f.num = num
  | x :: t, num, f, h => by
    rw [firstF] at h
    split at h
    · cases h; exact ⟨List.mem_cons_self, by assumption⟩
    · have := firstF_some h; exact ⟨List.mem_cons_of_mem _ this.1, this.2⟩
/-- fields' bytes of which none is known -/
def noneOf (known : Int → Int → Bool) (s : List UInt8) : Bool := match split (ints s) with
  | none => false
  | some D => allA D fun _ p => !known p.1.num p.1.ty
def valB (s : List UInt8) : Bool := Lib.validD s
def kindB (k : Int) (x : Nd) : Bool := if k = 1 ∨ k = 3 then decide (x.kind = 1) else if k = 2 ∨ k = 8 then decide (x.kind = 2) else if k = 7 then decide (x.kind = 2 ∧ x.u < 4294967296)
  else if k = 4 then decide (x.kind = 3) else if k = 5 then decide (x.kind = 4) && valB x.s else if k = 6 then decide (x.kind = 5) else if k = 9 then decide (x.kind = 6) else false
/-- a value fits a field's kind: the program's -/
def valP (rec : Int → Nd → Bool) (f : FD) (x : Nd) : Bool := if f.kind = 10 then rec f.type x else kindB f.kind x
def fldP (rec : Int → Nd → Bool) (fs : List FD) (x : Int × List Nd) : Bool := match firstF fs x.1 with
  | none => false
  | some f => !decide (x.2.length = 0) && ((decide (x.2.length ≤ 1) || f.rep) && allA x.2 fun _ y => valP rec f y)
def prevF (fl : List (Int × List Nd)) : Nat → Int
  | 0 => 0
  | k + 1 => match fl[k]? with
    | some f => f.1
    | none => 0
def bodyP (rec : Int → Nd → Bool) (fs : List FD) (x : Nd) : Bool := allA x.fields (fun k y => decide (prevF x.fields k < y.1) && fldP rec fs y) && noneOf (knownP fs) x.s
def topP (ms : List MD) (rec : Int → Nd → Bool) (dep t : Int) (x : Nd) : Bool := decide (x.kind = 7 ∧ x.type = t ∧ dep ≤ 16) && (match ms[t.toNat]? with
    | none => false
    | some m => bodyP rec m.fields x)
/-- a value fits a message, so deep: the program's -/
def fitP (ms : List MD) : Nat → Int → Int → Nd → Bool
  | 0, dep, t, x => topP ms (fun _ _ => false) dep t x
  | f + 1, dep, t, x => topP ms (fun t y => fitP ms f (dep + 1) t y) dep t x
/-- what lies in it -/
def recP (ms : List MD) (dep : Int) : Nat → Int → Nd → Bool
  | 0 => fun _ _ => false
  | f + 1 => fun t y => fitP ms f (dep + 1) t y
theorem fitP_eq (ms : List MD) (f : Nat) (dep t : Int) (x : Nd) : fitP ms f dep t x = topP ms (recP ms dep f) dep t x := by cases f <;> rfl
end Go.Proofs.YtfhmombnipfimabGreatDoor
namespace Go.Proofs.YtfhmombnipfimabGreatDoor
set_option linter.unusedVariables false

/-- a node as a value has it: nothing that does not belong to its kind -/
def cn (y : Nd) : Nd := ⟨if 1 ≤ y.kind ∧ y.kind ≤ 7 then y.kind else 0, if y.kind = 1 then y.n else if y.kind = 6 then IntKind.i32.wrap y.n else 0, if y.kind = 2 then y.u else 0, if y.kind = 3 then y.b else false,
  if y.kind = 4 ∨ y.kind = 5 ∨ y.kind = 7 then y.s else [], if y.kind = 7 then y.type else 0, if y.kind = 7 then y.fields else []⟩
end Go.Proofs.YtfhmombnipfimabGreatDoor
namespace Go.Proofs.YtfhmombnipfimabGreatDoor
set_option linter.unusedVariables false
open Go.ChangeShapes Go.WideShapes Go.ChangeAt Go.RowKit

theorem RowsIn.isSl {α : Type} {w : World} {S : Nat → Prop} {k : Nat} {row : α → List Value} {v : Value} {xs : List α} (h : RowsIn w S k row v xs) : ∃ ad c, v = .slice ad xs.length c := by
  obtain ⟨ad, c, hv, _⟩ := h; exact ⟨ad, c, hv⟩
end Go.Proofs.YtfhmombnipfimabGreatDoor
namespace Go.Proofs.YtfhmombnipfimabGreatDoor
open Go.Shelf
def lays143_ren : Go.Shelf.Ren := ⟨fun | 143 => 123 | 219 => 131 | 217 => 133 | 225 => 134 | 224 => 135 | 267 => 136 | 266 => 137 | 314 => 138 | n => n, fun | 9 => 9 | 3 => 3 | 4 => 4 | 5 => 5 | 46 => 81 | 146 => 211 | 51 => 169 | n => n, fun | 1 => 2 | n => n⟩
theorem lays143 : Go.Proofs.Lays.n143 Tryz.prog lays143_ren := {
  mixed := by kernel_rfl
  f143 := Tryz.func123.trans (congrArg some (by kernel_rfl))
  f217 := Tryz.func133.trans (congrArg some (by kernel_rfl))
  f219 := Tryz.func131.trans (congrArg some (by kernel_rfl))
  f224 := Tryz.func135.trans (congrArg some (by kernel_rfl))
  f225 := Tryz.func134.trans (congrArg some (by kernel_rfl))
  f266 := Tryz.func137.trans (congrArg some (by kernel_rfl))
  f267 := Tryz.func136.trans (congrArg some (by kernel_rfl))
  f314 := Tryz.func138.trans (congrArg some (by kernel_rfl))
  t3 := Tryz.underlying3
  a3 := Tryz.isAgg3
  z3 := Tryz.sizeOf3
  v3 := Tryz.zeroValue3
  t4 := Tryz.underlying4
  a4 := Tryz.isAgg4
  z4 := Tryz.sizeOf4
  v4 := Tryz.zeroValue4
  t5 := Tryz.underlying5
  a5 := Tryz.isAgg5
  z5 := Tryz.sizeOf5
  v5 := Tryz.zeroValue5
  t9 := Tryz.underlying9
  a9 := Tryz.isAgg9
  z9 := Tryz.sizeOf9
  v9 := Tryz.zeroValue9
  t46 := Tryz.underlying81
  a46 := Tryz.isAgg81
  z46 := Tryz.sizeOf81
  v46 := Tryz.zeroValue81
  t51 := Tryz.underlying169
  a51 := Tryz.isAgg169
  z51 := Tryz.sizeOf169
  v51 := Tryz.zeroValue169
  t146 := Tryz.underlying211
  a146 := Tryz.isAgg211
  z146 := Tryz.sizeOf211
  v146 := Tryz.zeroValue211
  g1 := by kernel_rfl }
open Go.RowKit Go.Lib in
theorem strings_Index_one (s : ByteArray) (c : UInt8) (w : World) :
    Calls Tryz.prog 123 #[.string s, .string ⟨#[c]⟩] w fun e w' => e = .returned (.int .i64 (Lib.indexByte s.data.toList c)) ∧ w' = w := Any.strings_Index_one lays143 s c w
def lays221_ren : Go.Shelf.Ren := ⟨fun | 221 => 111 | 268 => 121 | 138 => 122 | 143 => 123 | 195 => 128 | 197 => 129 | 218 => 130 | 219 => 131 | 260 => 132 | 217 => 133 | 225 => 134 | 224 => 135 | 267 => 136 | 266 => 137 | 314 => 138 | n => n, fun | 9 => 9 | 3 => 3 | 31 => 141 | 4 => 4 | 0 => 0 | 105 => 208 | 21 => 21 | 5 => 5 | 46 => 81 | 119 => 198 | 139 => 201 | 138 => 200 | 146 => 211 | 51 => 169 | n => n, fun | 1 => 2 | 3 => 0 | 4 => 1 | n => n⟩
theorem lays221 : Go.Proofs.Lays.n221 Tryz.prog lays221_ren := {
  mixed := by kernel_rfl
  f138 := Tryz.func122.trans (congrArg some (by kernel_rfl))
  f143 := Tryz.func123.trans (congrArg some (by kernel_rfl))
  f195 := Tryz.func128.trans (congrArg some (by kernel_rfl))
  f197 := Tryz.func129.trans (congrArg some (by kernel_rfl))
  f217 := Tryz.func133.trans (congrArg some (by kernel_rfl))
  f218 := Tryz.func130.trans (congrArg some (by kernel_rfl))
  f219 := Tryz.func131.trans (congrArg some (by kernel_rfl))
  f221 := Tryz.func111.trans (congrArg some (by kernel_rfl))
  f224 := Tryz.func135.trans (congrArg some (by kernel_rfl))
  f225 := Tryz.func134.trans (congrArg some (by kernel_rfl))
  f260 := Tryz.func132.trans (congrArg some (by kernel_rfl))
  f266 := Tryz.func137.trans (congrArg some (by kernel_rfl))
  f267 := Tryz.func136.trans (congrArg some (by kernel_rfl))
  f268 := Tryz.func121.trans (congrArg some (by kernel_rfl))
  f314 := Tryz.func138.trans (congrArg some (by kernel_rfl))
  t0 := Tryz.underlying0
  a0 := Tryz.isAgg0
  z0 := Tryz.sizeOf0
  v0 := Tryz.zeroValue0
  t3 := Tryz.underlying3
  a3 := Tryz.isAgg3
  z3 := Tryz.sizeOf3
  v3 := Tryz.zeroValue3
  t4 := Tryz.underlying4
  a4 := Tryz.isAgg4
  z4 := Tryz.sizeOf4
  v4 := Tryz.zeroValue4
  t5 := Tryz.underlying5
  a5 := Tryz.isAgg5
  z5 := Tryz.sizeOf5
  v5 := Tryz.zeroValue5
  t9 := Tryz.underlying9
  a9 := Tryz.isAgg9
  z9 := Tryz.sizeOf9
  v9 := Tryz.zeroValue9
  t21 := Tryz.underlying21
  a21 := Tryz.isAgg21
  z21 := Tryz.sizeOf21
  v21 := Tryz.zeroValue21
  t31 := Tryz.underlying141
  a31 := Tryz.isAgg141
  z31 := Tryz.sizeOf141
  v31 := Tryz.zeroValue141
  t46 := Tryz.underlying81
  a46 := Tryz.isAgg81
  z46 := Tryz.sizeOf81
  v46 := Tryz.zeroValue81
  t51 := Tryz.underlying169
  a51 := Tryz.isAgg169
  z51 := Tryz.sizeOf169
  v51 := Tryz.zeroValue169
  t105 := Tryz.underlying208
  a105 := Tryz.isAgg208
  z105 := Tryz.sizeOf208
  v105 := Tryz.zeroValue208
  t119 := Tryz.underlying198
  a119 := Tryz.isAgg198
  z119 := Tryz.sizeOf198
  t138 := Tryz.underlying200
  a138 := Tryz.isAgg200
  z138 := Tryz.sizeOf200
  v138 := Tryz.zeroValue200
  t139 := Tryz.underlying201
  a139 := Tryz.isAgg201
  z139 := Tryz.sizeOf201
  v139 := Tryz.zeroValue201
  t146 := Tryz.underlying211
  a146 := Tryz.isAgg211
  z146 := Tryz.sizeOf211
  v146 := Tryz.zeroValue211
  g1 := by kernel_rfl
  g3 := by kernel_rfl
  g4 := by kernel_rfl }
open Go.RowKit Go.Lib in
theorem strings_genSplit (s sep : ByteArray) (sv : Nat) (n : Int) (N : Nat) (m : Int) (w : World) (hs : s.size < 4294967281) (hm : w.cell? ⟨2, 0, none⟩ = some (.int .i64 m)) (h1 : 1 ≤ sep.size) (hsv : sv ≤ sep.size) (hn0 : n ≠ 0) (hn63 : n ≤ 9223372036854775807) (hN : (N : Int) = min (if n < 0 then (Lib.countB s sep : Int) + 1 else n) ((s.size : Int) + 1)) :
    Calls Tryz.prog 111 #[.string s, .string sep, .int .i64 sv, .int .i64 n] w fun e w' =>
      e = .returned (.slice (some ⟨w.heap.size, 0, none⟩) (Lib.splitB sep sv (N - 1) s).length N) ∧ w' = w.alloc (.cells (Lib.cellsOf (Lib.splitB sep sv (N - 1) s) N) 9) := Any.strings_genSplit lays221 (by kernel_rfl) s sep sv n N m w hs hm h1 hsv hn0 hn63 hN
end Go.Proofs.YtfhmombnipfimabGreatDoor
namespace Go.Proofs.YtfhmombnipfimabGreatDoor
set_option linter.unusedVariables false
open Go.Shelf Go.RowKit

/-- the pieces of a text -/
def pieces (s : ByteArray) : List ByteArray := (pcs [] s.data.toList).map fun l => ⟨l.toArray⟩
theorem pieces_len (s : ByteArray) : 1 ≤ (pieces s).length ∧ (pieces s).length ≤ s.size + 1 := by
  unfold pieces; rw [List.length_map, ← len_data]; exact pcs_len _ _
theorem mk_data : ∀ (xs : List ByteArray) (L : List (List UInt8)), xs.map (·.data.toList) = L → xs = L.map fun l => ⟨l.toArray⟩
  | [], L, h => by subst h; rfl
  | x :: t, L, h => by
    subst h
    rw [List.map_cons, List.map_cons, ← mk_data t _ rfl]
theorem splitB_few (s : ByteArray) (h : (pieces s).length ≤ 8) : Lib.splitB ⟨#[46]⟩ 0 (min 9 (s.size + 1) - 1) s = pieces s := by
  refine mk_data _ _ ?_
  rw [Lib.splitB_data]
  show Lib.splitK [46] 0 _ _ = _
  have hl := pieces_len s
  unfold pieces at h hl
  rw [List.length_map] at h hl
  exact (splitK_pcs _ _).1 (by omega)
theorem splitB_many (s : ByteArray) (h : 8 < (pieces s).length) : 8 < (Lib.splitB ⟨#[46]⟩ 0 (min 9 (s.size + 1) - 1) s).length := by
  have hl := pieces_len s
  unfold pieces at h hl
  rw [List.length_map] at h hl
  have e : (Lib.splitB ⟨#[46]⟩ 0 (min 9 (s.size + 1) - 1) s).length = (Lib.splitK [46] 0 (min 9 (s.size + 1) - 1) s.data.toList).length := by
    rw [← List.length_map (f := fun x : ByteArray => x.data.toList), Lib.splitB_data]
  rw [e]
  have hk : min 9 (s.size + 1) - 1 = 8 := by omega
  rw [hk]
  by_cases h9 : (pcs [] s.data.toList).length ≤ 8 + 1
  · rw [(splitK_pcs 8 _).1 h9]; exact h
  · rw [(splitK_pcs 8 _).2 (by omega)]; omega

/-- strings lie in memory, from a block's first place on -/
def HeldS (w : World) (g : Nat) (xs : List ByteArray) : Prop := ∀ (j : Nat) (x : ByteArray), xs[j]? = some x → w.cell? ⟨g, j, none⟩ = some (.string x)
set_option maxHeartbeats 1000000 in
theorem splitN_any (s : ByteArray) (w : World) (hs : s.size ≤ 4000000000) :
    Calls Tryz.prog 96 #[.string s, .string ⟨#[46]⟩, .int .i64 9] w fun e w' =>
      e = .returned (.slice (some ⟨w.heap.size, 0, none⟩) (Lib.splitB ⟨#[46]⟩ 0 (min 9 (s.size + 1) - 1) s).length (min 9 (s.size + 1))) ∧ w' = w.alloc (.cells (Lib.cellsOf (Lib.splitB ⟨#[46]⟩ 0 (min 9 (s.size + 1) - 1) s) (min 9 (s.size + 1))) 9) := by
  have hG : Calls Tryz.prog 111 #[.string s, .string ⟨#[46]⟩, .int .i64 0, .int .i64 9] w fun e w' =>
      e = .returned (.slice (some ⟨w.heap.size, 0, none⟩) (Lib.splitB ⟨#[46]⟩ 0 (min 9 (s.size + 1) - 1) s).length (min 9 (s.size + 1))) ∧ w' = w.alloc (.cells (Lib.cellsOf (Lib.splitB ⟨#[46]⟩ 0 (min 9 (s.size + 1) - 1) s) (min 9 (s.size + 1))) 9) :=
    Any.strings_genSplit_core lays221 (by kernel_rfl) s ⟨#[46]⟩ 0 9 (min 9 (s.size + 1)) w (by omega) (by decide) (by decide)
      (fun x c hx => (strings_Index_one x 46 _).mono fun e w' ⟨he, hw⟩ => ⟨by
        rw [he]
        show _ = Ending.returned (Value.int .i64 (Lib.index x.data.toList [46]))
        rw [Lib.index_one], hw⟩)
      ((strings_Count_one s 46 w).mono fun e w' ⟨he, hw⟩ => ⟨by
        rw [he]
        show _ = Ending.returned (Value.int .i64 ((Lib.count s.data.toList [46] : Nat) : Int))
        rw [Lib.count_one]; rfl, hw⟩)
      (by decide) (by decide) (by rw [if_neg (by decide)]; omega)
  go_enter Tryz.func96, Tryz.ntmps96
  go_wp2_with fail
  refine hG.mono ?_
  rintro e w1 ⟨rfl, hw⟩
  go_wp2_with fail
  go_ret
  exact ⟨rfl, rfl⟩

theorem cellsOf_get {xs : List ByteArray} {N j : Nat} {x : ByteArray} (h : xs[j]? = some x) : (Lib.cellsOf xs N)[j]? = some (.string x) := by
  have hlt := (List.getElem?_eq_some_iff.1 h).1
  unfold Lib.cellsOf
  rw [List.getElem?_toArray, List.getElem?_append_left (by simpa using hlt)]
  simp [h]
theorem setSame (w : World) (g j : Nat) (c : Array Value) (t : TypeId) (v : Value) (hg : w.heap[g]? = some (.cells c t (0, 0))) (hv : c[j]? = some v) : (w.setCell ⟨g, j, none⟩ v).heap[g]? = some (.cells c t (0, 0)) := by
  rw [setCell_eq_setRow _ _ _ _ _ _ _ hg]
  rw [setRow_heap w g c _ t _ hg]
  congr 2
  apply Array.ext_getElem?
  intro k
  rw [Array.getElem?_setIfInBounds]
  split
  · rename_i h
    subst h
    split
    · exact hv.symm
    · rename_i h2
      rw [Array.getElem?_eq_none (by omega)]
  · rfl
def isPlain (x : ByteArray) : Bool := nameOf (runes x) && !resOf x.toList
theorem alloc_heap (w : World) (o : Obj) : (w.alloc o).heap[w.heap.size]? = some o := by
  show (w.heap.push o)[w.heap.size]? = _
  simp
theorem blk_lt {w : World} {b : Nat} {o : Obj} (h : w.heap[b]? = some o) : b < w.heap.size := (Array.getElem?_eq_some_iff.1 h).1
/-- all pieces are names that aren't reserved -/
def allPlain (s : ByteArray) : Bool := (pieces s).all isPlain
theorem plain_of (x : ByteArray) : isPlain x = (nameOf (runes x) && !resOf x.toList) := rfl
theorem all_dropS {l : List ByteArray} {k : Nat} {z : ByteArray} (h : l[k]? = some z) (p : ByteArray → Bool) : (l.drop k).all p = (p z && (l.drop (k + 1)).all p) := by
  have hlt := (List.getElem?_eq_some_iff.1 h).1
  rw [List.drop_eq_getElem_cons hlt, List.all_cons, (List.getElem?_eq_some_iff.1 h).2]
theorem piece_size {s : ByteArray} {x : ByteArray} (h : x ∈ pieces s) : x.size ≤ s.size := by
  have : ∀ (l cur : List UInt8) (y : List UInt8), y ∈ pcs cur l → y.length ≤ cur.length + l.length := by
    intro l
    induction l with
    | nil => intro cur y hy; simp [pcs] at hy; subst hy; simp
    | cons b t ih =>
      intro cur y hy
      rw [pcs] at hy
      split at hy
      · rcases List.mem_cons.1 hy with rfl | hy
        · simp
        · have := ih [] y hy; simp at this ⊢; omega
      · have := ih _ y hy; simp at this ⊢; omega
  unfold pieces at h
  rw [List.mem_map] at h
  obtain ⟨y, hy, rfl⟩ := h
  have h2 := this s.data.toList [] y hy
  rw [len_data] at h2
  have : (ByteArray.mk y.toArray).size = y.length := by show y.toArray.size = _; simp
  rw [this]; simpa using h2
end Go.Proofs.YtfhmombnipfimabGreatDoor
