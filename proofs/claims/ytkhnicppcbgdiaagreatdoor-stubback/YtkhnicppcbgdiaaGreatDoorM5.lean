/-
  Schemas as plain data, and what the document's rounds say of declarations. Nothing is proved of the program here.
  The walks over the program's own Same of declarations.
  What the library functions that this program calls answer, as theorems over this translation: each is one application of a theorem of the given library. Nothing is proved of the program itself here.
  The walk over the library's strings.SplitN at a dot.
  The walks over the document's own Scalar and Reserved.
-/
import Derived.Test.YtkhnicppcbgdiaaGreatDoorM4
import Derived.Test.YtkhnicppcbgdiaaGreatDoorProg
import Derived.Deep.Cut
import Derived.Deep.DeepCutAuto
import Derived.Lib.SlicesS
import Derived.Shelf.Strings.Search3
import Derived.Shelf.Strings.Split
import Derived.Shelf.LaysM
import Derived.Ground.NamesProg
import Derived.Test.YtkhnicppcbgdiaaGreatDoorM3
import Derived.Test.YtkhnicppcbgdiaaGreatDoorM2
import Derived.Lib.IndexBytes
namespace Go.Proofs.YtkhnicppcbgdiaaGreatDoor
set_option linter.unusedVariables false

structure FD where
  num : Int
  name : List UInt8
  kind : Int
  rep : Bool
  type : Int
structure MD where
  name : List UInt8
  fields : List FD
structure VD where
  name : List UInt8
  num : Int
structure ED where
  name : List UInt8
  values : List VD
structure TD where
  id : Int
  service : List UInt8
  name : List UInt8
  inp : Int
  out : Int
structure SC where
  ms : List MD
  es : List ED
  ts : List TD
theorem take_snoc {α : Type} {l : List α} {j : Nat} {x : α} (h : l[j]? = some x) : l.take (j + 1) = l.take j ++ [x] := by
  rw [List.take_add_one, h]; rfl

def fnOK (n : Int) : Bool := decide (1 ≤ n ∧ n ≤ 536870911 ∧ (n < 19000 ∨ 19999 < n))
/-! the tables -/
/-! rings -/
def Goes (ms : List MD) (a b : Nat) : Prop := ∃ m, ms[a]? = some m ∧ ∃ f, f ∈ m.fields ∧ f.kind = 10 ∧ f.rep = false ∧ f.type = (b : Int)
def Ring (ms : List MD) (t : Nat) : Prop := Relation.TransGen (Goes ms) t t
end Go.Proofs.YtkhnicppcbgdiaaGreatDoor
namespace Go.Proofs.YtkhnicppcbgdiaaGreatDoor
set_option linter.unusedVariables false
open Go.ChangeShapes Go.WideShapes Go.ChangeAt Go.RowKit

theorem RowsIn.isSl {α : Type} {w : World} {S : Nat → Prop} {k : Nat} {row : α → List Value} {v : Value} {xs : List α} (h : RowsIn w S k row v xs) : ∃ ad c, v = .slice ad xs.length c := by
  obtain ⟨ad, c, hv, _⟩ := h; exact ⟨ad, c, hv⟩
end Go.Proofs.YtkhnicppcbgdiaaGreatDoor
namespace Go.Proofs.YtkhnicppcbgdiaaGreatDoor
open Go.Shelf
def lays143_ren : Go.Shelf.Ren := ⟨fun | 143 => 99 | 219 => 90 | 217 => 106 | 225 => 107 | 224 => 108 | 267 => 109 | 266 => 121 | 314 => 122 | n => n, fun | 9 => 9 | 3 => 3 | 4 => 4 | 5 => 5 | 46 => 40 | 146 => 155 | 51 => 133 | n => n, fun | 1 => 2 | n => n⟩
theorem lays143 : Go.Proofs.Lays.n143 Tryz.prog lays143_ren := {
  mixed := by kernel_rfl
  f143 := Tryz.func99.trans (congrArg some (by kernel_rfl))
  f217 := Tryz.func106.trans (congrArg some (by kernel_rfl))
  f219 := Tryz.func90.trans (congrArg some (by kernel_rfl))
  f224 := Tryz.func108.trans (congrArg some (by kernel_rfl))
  f225 := Tryz.func107.trans (congrArg some (by kernel_rfl))
  f266 := Tryz.func121.trans (congrArg some (by kernel_rfl))
  f267 := Tryz.func109.trans (congrArg some (by kernel_rfl))
  f314 := Tryz.func122.trans (congrArg some (by kernel_rfl))
  t3 := Tryz.underlying3
  a3 := Tryz.isAgg3
  z3 := Tryz.sizeOf3
  v3 := Tryz.zeroValue3
  t4 := Tryz.underlying4
  a4 := Tryz.isAgg4
  z4 := Tryz.sizeOf4
  v4 := Tryz.zeroValue4
  t5 := Tryz.underlying5
  a5 := Tryz.isAgg5
  z5 := Tryz.sizeOf5
  v5 := Tryz.zeroValue5
  t9 := Tryz.underlying9
  a9 := Tryz.isAgg9
  z9 := Tryz.sizeOf9
  v9 := Tryz.zeroValue9
  t46 := Tryz.underlying40
  a46 := Tryz.isAgg40
  z46 := Tryz.sizeOf40
  v46 := Tryz.zeroValue40
  t51 := Tryz.underlying133
  a51 := Tryz.isAgg133
  z51 := Tryz.sizeOf133
  v51 := Tryz.zeroValue133
  t146 := Tryz.underlying155
  a146 := Tryz.isAgg155
  z146 := Tryz.sizeOf155
  v146 := Tryz.zeroValue155
  g1 := by kernel_rfl }
open Go.RowKit Go.Lib in
theorem strings_Index_one (s : ByteArray) (c : UInt8) (w : World) :
    Calls Tryz.prog 99 #[.string s, .string ⟨#[c]⟩] w fun e w' => e = .returned (.int .i64 (Lib.indexByte s.data.toList c)) ∧ w' = w := Any.strings_Index_one lays143 s c w
def lays221_ren : Go.Shelf.Ren := ⟨fun | 221 => 111 | 268 => 123 | 138 => 97 | 143 => 99 | 195 => 112 | 197 => 100 | 218 => 113 | 219 => 90 | 260 => 115 | 217 => 106 | 225 => 107 | 224 => 108 | 267 => 109 | 266 => 121 | 314 => 122 | n => n, fun | 9 => 9 | 3 => 3 | 31 => 86 | 4 => 4 | 0 => 0 | 105 => 135 | 21 => 21 | 5 => 5 | 46 => 40 | 119 => 144 | 139 => 147 | 138 => 146 | 146 => 155 | 51 => 133 | n => n, fun | 1 => 2 | 3 => 0 | 4 => 1 | n => n⟩
theorem lays221 : Go.Proofs.Lays.n221 Tryz.prog lays221_ren := {
  mixed := by kernel_rfl
  f138 := Tryz.func97.trans (congrArg some (by kernel_rfl))
  f143 := Tryz.func99.trans (congrArg some (by kernel_rfl))
  f195 := Tryz.func112.trans (congrArg some (by kernel_rfl))
  f197 := Tryz.func100.trans (congrArg some (by kernel_rfl))
  f217 := Tryz.func106.trans (congrArg some (by kernel_rfl))
  f218 := Tryz.func113.trans (congrArg some (by kernel_rfl))
  f219 := Tryz.func90.trans (congrArg some (by kernel_rfl))
  f221 := Tryz.func111.trans (congrArg some (by kernel_rfl))
  f224 := Tryz.func108.trans (congrArg some (by kernel_rfl))
  f225 := Tryz.func107.trans (congrArg some (by kernel_rfl))
  f260 := Tryz.func115.trans (congrArg some (by kernel_rfl))
  f266 := Tryz.func121.trans (congrArg some (by kernel_rfl))
  f267 := Tryz.func109.trans (congrArg some (by kernel_rfl))
  f268 := Tryz.func123.trans (congrArg some (by kernel_rfl))
  f314 := Tryz.func122.trans (congrArg some (by kernel_rfl))
  t0 := Tryz.underlying0
  a0 := Tryz.isAgg0
  z0 := Tryz.sizeOf0
  v0 := Tryz.zeroValue0
  t3 := Tryz.underlying3
  a3 := Tryz.isAgg3
  z3 := Tryz.sizeOf3
  v3 := Tryz.zeroValue3
  t4 := Tryz.underlying4
  a4 := Tryz.isAgg4
  z4 := Tryz.sizeOf4
  v4 := Tryz.zeroValue4
  t5 := Tryz.underlying5
  a5 := Tryz.isAgg5
  z5 := Tryz.sizeOf5
  v5 := Tryz.zeroValue5
  t9 := Tryz.underlying9
  a9 := Tryz.isAgg9
  z9 := Tryz.sizeOf9
  v9 := Tryz.zeroValue9
  t21 := Tryz.underlying21
  a21 := Tryz.isAgg21
  z21 := Tryz.sizeOf21
  v21 := Tryz.zeroValue21
  t31 := Tryz.underlying86
  a31 := Tryz.isAgg86
  z31 := Tryz.sizeOf86
  v31 := Tryz.zeroValue86
  t46 := Tryz.underlying40
  a46 := Tryz.isAgg40
  z46 := Tryz.sizeOf40
  v46 := Tryz.zeroValue40
  t51 := Tryz.underlying133
  a51 := Tryz.isAgg133
  z51 := Tryz.sizeOf133
  v51 := Tryz.zeroValue133
  t105 := Tryz.underlying135
  a105 := Tryz.isAgg135
  z105 := Tryz.sizeOf135
  v105 := Tryz.zeroValue135
  t119 := Tryz.underlying144
  a119 := Tryz.isAgg144
  z119 := Tryz.sizeOf144
  t138 := Tryz.underlying146
  a138 := Tryz.isAgg146
  z138 := Tryz.sizeOf146
  v138 := Tryz.zeroValue146
  t139 := Tryz.underlying147
  a139 := Tryz.isAgg147
  z139 := Tryz.sizeOf147
  v139 := Tryz.zeroValue147
  t146 := Tryz.underlying155
  a146 := Tryz.isAgg155
  z146 := Tryz.sizeOf155
  v146 := Tryz.zeroValue155
  g1 := by kernel_rfl
  g3 := by kernel_rfl
  g4 := by kernel_rfl }
open Go.RowKit Go.Lib in
theorem strings_genSplit (s sep : ByteArray) (sv : Nat) (n : Int) (N : Nat) (m : Int) (w : World) (hs : s.size < 4294967281) (hm : w.cell? ⟨2, 0, none⟩ = some (.int .i64 m)) (h1 : 1 ≤ sep.size) (hsv : sv ≤ sep.size) (hn0 : n ≠ 0) (hn63 : n ≤ 9223372036854775807) (hN : (N : Int) = min (if n < 0 then (Lib.countB s sep : Int) + 1 else n) ((s.size : Int) + 1)) :
    Calls Tryz.prog 111 #[.string s, .string sep, .int .i64 sv, .int .i64 n] w fun e w' =>
      e = .returned (.slice (some ⟨w.heap.size, 0, none⟩) (Lib.splitB sep sv (N - 1) s).length N) ∧ w' = w.alloc (.cells (Lib.cellsOf (Lib.splitB sep sv (N - 1) s) N) 9) := Any.strings_genSplit lays221 (by kernel_rfl) s sep sv n N m w hs hm h1 hsv hn0 hn63 hN
end Go.Proofs.YtkhnicppcbgdiaaGreatDoor
namespace Go.Proofs.YtkhnicppcbgdiaaGreatDoor
set_option linter.unusedVariables false
open Go.Shelf Go.RowKit

/-- the pieces of a text -/
def pieces (s : ByteArray) : List ByteArray := (pcs [] s.data.toList).map fun l => ⟨l.toArray⟩
theorem pieces_len (s : ByteArray) : 1 ≤ (pieces s).length ∧ (pieces s).length ≤ s.size + 1 := by
  unfold pieces; rw [List.length_map, ← len_data]; exact pcs_len _ _
theorem mk_data : ∀ (xs : List ByteArray) (L : List (List UInt8)), xs.map (·.data.toList) = L → xs = L.map fun l => ⟨l.toArray⟩
  | [], L, h => by subst h; rfl
  | x :: t, L, h => by
    subst h
    rw [List.map_cons, List.map_cons, ← mk_data t _ rfl]
theorem splitB_few (s : ByteArray) (h : (pieces s).length ≤ 8) : Lib.splitB ⟨#[46]⟩ 0 (min 9 (s.size + 1) - 1) s = pieces s := by
  refine mk_data _ _ ?_
  rw [Lib.splitB_data]
  show Lib.splitK [46] 0 _ _ = _
  have hl := pieces_len s
  unfold pieces at h hl
  rw [List.length_map] at h hl
  exact (splitK_pcs _ _).1 (by omega)
theorem splitB_many (s : ByteArray) (h : 8 < (pieces s).length) : 8 < (Lib.splitB ⟨#[46]⟩ 0 (min 9 (s.size + 1) - 1) s).length := by
  have hl := pieces_len s
  unfold pieces at h hl
  rw [List.length_map] at h hl
  have e : (Lib.splitB ⟨#[46]⟩ 0 (min 9 (s.size + 1) - 1) s).length = (Lib.splitK [46] 0 (min 9 (s.size + 1) - 1) s.data.toList).length := by
    rw [← List.length_map (f := fun x : ByteArray => x.data.toList), Lib.splitB_data]
  rw [e]
  have hk : min 9 (s.size + 1) - 1 = 8 := by omega
  rw [hk]
  by_cases h9 : (pcs [] s.data.toList).length ≤ 8 + 1
  · rw [(splitK_pcs 8 _).1 h9]; exact h
  · rw [(splitK_pcs 8 _).2 (by omega)]; omega

/-- strings lie in memory, from a block's first place on -/
def HeldS (w : World) (g : Nat) (xs : List ByteArray) : Prop := ∀ (j : Nat) (x : ByteArray), xs[j]? = some x → w.cell? ⟨g, j, none⟩ = some (.string x)
theorem heldS_old {w w' : World} {g : Nat} {xs : List ByteArray} (h : HeldS w g xs) (hb : Below w.heap.size w w') : HeldS w' g xs := by
  intro j z hj
  have hc := h j z hj
  have hlt : g < w.heap.size := by
    by_cases hg : g < w.heap.size
    · exact hg
    · simp [World.cell?, Array.getElem?_eq_none (Nat.le_of_not_lt hg)] at hc
  rw [hb.cell hlt]; exact hc

set_option maxHeartbeats 1000000 in
theorem splitN_any (s : ByteArray) (w : World) (hs : s.size ≤ 4000000000) :
    Calls Tryz.prog 95 #[.string s, .string ⟨#[46]⟩, .int .i64 9] w fun e w' =>
      e = .returned (.slice (some ⟨w.heap.size, 0, none⟩) (Lib.splitB ⟨#[46]⟩ 0 (min 9 (s.size + 1) - 1) s).length (min 9 (s.size + 1))) ∧ w' = w.alloc (.cells (Lib.cellsOf (Lib.splitB ⟨#[46]⟩ 0 (min 9 (s.size + 1) - 1) s) (min 9 (s.size + 1))) 9) := by
  have hG : Calls Tryz.prog 111 #[.string s, .string ⟨#[46]⟩, .int .i64 0, .int .i64 9] w fun e w' =>
      e = .returned (.slice (some ⟨w.heap.size, 0, none⟩) (Lib.splitB ⟨#[46]⟩ 0 (min 9 (s.size + 1) - 1) s).length (min 9 (s.size + 1))) ∧ w' = w.alloc (.cells (Lib.cellsOf (Lib.splitB ⟨#[46]⟩ 0 (min 9 (s.size + 1) - 1) s) (min 9 (s.size + 1))) 9) :=
    Any.strings_genSplit_core lays221 (by kernel_rfl) s ⟨#[46]⟩ 0 9 (min 9 (s.size + 1)) w (by omega) (by decide) (by decide)
      (fun x c hx => (strings_Index_one x 46 _).mono fun e w' ⟨he, hw⟩ => ⟨by
        rw [he]
        show _ = Ending.returned (Value.int .i64 (Lib.index x.data.toList [46]))
        rw [Lib.index_one], hw⟩)
      ((strings_Count_one s 46 w).mono fun e w' ⟨he, hw⟩ => ⟨by
        rw [he]
        show _ = Ending.returned (Value.int .i64 ((Lib.count s.data.toList [46] : Nat) : Int))
        rw [Lib.count_one]; rfl, hw⟩)
      (by decide) (by decide) (by rw [if_neg (by decide)]; omega)
  go_enter Tryz.func95, Tryz.ntmps95
  go_wp2_with fail
  refine hG.mono ?_
  rintro e w1 ⟨rfl, hw⟩
  go_wp2_with fail
  go_ret
  exact ⟨rfl, rfl⟩

theorem cellsOf_get {xs : List ByteArray} {N j : Nat} {x : ByteArray} (h : xs[j]? = some x) : (Lib.cellsOf xs N)[j]? = some (.string x) := by
  have hlt := (List.getElem?_eq_some_iff.1 h).1
  unfold Lib.cellsOf
  rw [List.getElem?_toArray, List.getElem?_append_left (by simpa using hlt)]
  simp [h]
theorem setSame (w : World) (g j : Nat) (c : Array Value) (t : TypeId) (v : Value) (hg : w.heap[g]? = some (.cells c t (0, 0))) (hv : c[j]? = some v) : (w.setCell ⟨g, j, none⟩ v).heap[g]? = some (.cells c t (0, 0)) := by
  rw [setCell_eq_setRow _ _ _ _ _ _ _ hg]
  rw [setRow_heap w g c _ t _ hg]
  congr 2
  apply Array.ext_getElem?
  intro k
  rw [Array.getElem?_setIfInBounds]
  split
  · rename_i h
    subst h
    split
    · exact hv.symm
    · rename_i h2
      rw [Array.getElem?_eq_none (by omega)]
  · rfl
def isPlain (x : ByteArray) : Bool := nameOf (runes x) && !resOf x.toList
theorem alloc_heap (w : World) (o : Obj) : (w.alloc o).heap[w.heap.size]? = some o := by
  show (w.heap.push o)[w.heap.size]? = _
  simp
theorem blk_lt {w : World} {b : Nat} {o : Obj} (h : w.heap[b]? = some o) : b < w.heap.size := (Array.getElem?_eq_some_iff.1 h).1
/-- all pieces are names that aren't reserved -/
def allPlain (s : ByteArray) : Bool := (pieces s).all isPlain
theorem plain_of (x : ByteArray) : isPlain x = (nameOf (runes x) && !resOf x.toList) := rfl
theorem all_dropS {l : List ByteArray} {k : Nat} {z : ByteArray} (h : l[k]? = some z) (p : ByteArray → Bool) : (l.drop k).all p = (p z && (l.drop (k + 1)).all p) := by
  have hlt := (List.getElem?_eq_some_iff.1 h).1
  rw [List.drop_eq_getElem_cons hlt, List.all_cons, (List.getElem?_eq_some_iff.1 h).2]
theorem piece_size {s : ByteArray} {x : ByteArray} (h : x ∈ pieces s) : x.size ≤ s.size := by
  have : ∀ (l cur : List UInt8) (y : List UInt8), y ∈ pcs cur l → y.length ≤ cur.length + l.length := by
    intro l
    induction l with
    | nil => intro cur y hy; simp [pcs] at hy; subst hy; simp
    | cons b t ih =>
      intro cur y hy
      rw [pcs] at hy
      split at hy
      · rcases List.mem_cons.1 hy with rfl | hy
        · simp
        · have := ih [] y hy; simp at this ⊢; omega
      · have := ih _ y hy; simp at this ⊢; omega
  unfold pieces at h
  rw [List.mem_map] at h
  obtain ⟨y, hy, rfl⟩ := h
  have h2 := this s.data.toList [] y hy
  rw [len_data] at h2
  have : (ByteArray.mk y.toArray).size = y.length := by show y.toArray.size = _; simp
  rw [this]; simpa using h2
end Go.Proofs.YtkhnicppcbgdiaaGreatDoor
namespace Go.Proofs.YtkhnicppcbgdiaaGreatDoor
set_option linter.unusedVariables false
open Go.ChangeShapes Go.WideShapes Go.ChangeAt Go.RowKit

theorem retI {a b : Int} (h : a = b) : Ending.returned (.int .i64 a) = .returned (.int .i64 b) := by rw [h]
set_option maxHeartbeats 1000000 in
theorem scalarR_any (s : ByteArray) (w : World) :
    Calls Tryz.prog 88 #[.string s] w fun e w' => e = .returned (.int .i64 (scalarOf s.toList)) ∧ w' = w := by
  go_enter Tryz.func88, Tryz.ntmps88
  go_wp2
  all_goals
    go_ret
    refine ⟨retI ?_, rfl⟩
    unfold scalarOf
    simp [*]
set_option maxHeartbeats 1000000 in
theorem reservedR_any (s : ByteArray) (w : World) :
    Calls Tryz.prog 67 #[.string s] w fun e w' => e = .returned (.bool (resOf s.toList)) ∧ w' = w := by
  have hS := fun W => scalarR_any s W
  unfold resOf
  generalize scalarOf s.toList = k at *
  go_enter Tryz.func67, Tryz.ntmps67
  go_wp2_with (go_at_call 88; refine (hS _).mono ?_; rintro e w' ⟨rfl, rfl⟩)
  all_goals
    go_ret
    refine ⟨retB ?_, rfl⟩
    clear hS
    first
      | (simp [*]; done)
      | simp_all
end Go.Proofs.YtkhnicppcbgdiaaGreatDoor
