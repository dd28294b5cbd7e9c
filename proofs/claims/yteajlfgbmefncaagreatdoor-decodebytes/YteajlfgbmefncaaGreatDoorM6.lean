/-
  What the library functions that this program calls answer, as theorems over this translation: each is one application of a theorem of the given library. Nothing is proved of the program itself here.
  The walk over the library's strings.SplitN at a dot.
  The walks over the document's own Scalar and Reserved.
  Sets: maps without elements, as the program keeps them; the walks over their add.
  Schemas in memory; rows that grow. Nothing is proved of the program here.
  A cell of a block.
-/
import Derived.Shelf.Strings.Search3
import Derived.Shelf.Strings.Split
import Derived.Shelf.LaysM
import Derived.Ground.NamesProg
import Derived.Test.YteajlfgbmefncaaGreatDoorProg
import Derived.Test.YteajlfgbmefncaaGreatDoorM0
import Derived.Lib.IndexBytes
import Derived.Test.YteajlfgbmefncaaGreatDoorM1
import Derived.Test.YteajlfgbmefncaaGreatDoorM5
import Derived.Test.YteajlfgbmefncaaGreatDoorChecked
import Derived.Maps.OwnSet
import Derived.Deep.RegionLaw
import Derived.Deep.RegionHeldLaw
import Derived.Deep.AppendLies
import Derived.Deep.Cut
import Derived.Deep.DeepCutAuto
import Derived.Laws.AppendOwn
import Derived.OwnWalk
import Derived.Maps.AppendAt
import Derived.BigQuiet
import Derived.Deep.QuietTactic
import Derived.Lib.Hide
import Derived.WalkKit
namespace Go.Proofs.YteajlfgbmefncaaGreatDoor
open Go.Shelf
def lays143_ren : Go.Shelf.Ren := ⟨fun | 143 => 134 | 219 => 143 | 217 => 145 | 225 => 146 | 224 => 147 | 267 => 148 | 266 => 149 | 314 => 150 | n => n, fun | 9 => 9 | 3 => 3 | 4 => 4 | 5 => 5 | 46 => 44 | 146 => 218 | 51 => 196 | n => n, fun | 1 => 2 | n => n⟩
theorem lays143 : Go.Proofs.Lays.n143 Tryz.prog lays143_ren := {
  mixed := by kernel_rfl
  f143 := Tryz.func134.trans (congrArg some (by kernel_rfl))
  f217 := Tryz.func145.trans (congrArg some (by kernel_rfl))
  f219 := Tryz.func143.trans (congrArg some (by kernel_rfl))
  f224 := Tryz.func147.trans (congrArg some (by kernel_rfl))
  f225 := Tryz.func146.trans (congrArg some (by kernel_rfl))
  f266 := Tryz.func149.trans (congrArg some (by kernel_rfl))
  f267 := Tryz.func148.trans (congrArg some (by kernel_rfl))
  f314 := Tryz.func150.trans (congrArg some (by kernel_rfl))
  t3 := Tryz.underlying3
  a3 := Tryz.isAgg3
  z3 := Tryz.sizeOf3
  v3 := Tryz.zeroValue3
  t4 := Tryz.underlying4
  a4 := Tryz.isAgg4
  z4 := Tryz.sizeOf4
  v4 := Tryz.zeroValue4
  t5 := Tryz.underlying5
  a5 := Tryz.isAgg5
  z5 := Tryz.sizeOf5
  v5 := Tryz.zeroValue5
  t9 := Tryz.underlying9
  a9 := Tryz.isAgg9
  z9 := Tryz.sizeOf9
  v9 := Tryz.zeroValue9
  t46 := Tryz.underlying44
  a46 := Tryz.isAgg44
  z46 := Tryz.sizeOf44
  v46 := Tryz.zeroValue44
  t51 := Tryz.underlying196
  a51 := Tryz.isAgg196
  z51 := Tryz.sizeOf196
  v51 := Tryz.zeroValue196
  t146 := Tryz.underlying218
  a146 := Tryz.isAgg218
  z146 := Tryz.sizeOf218
  v146 := Tryz.zeroValue218
  g1 := by kernel_rfl }
open Go.RowKit Go.Lib in
theorem strings_Index_one (s : ByteArray) (c : UInt8) (w : World) :
    Calls Tryz.prog 134 #[.string s, .string ⟨#[c]⟩] w fun e w' => e = .returned (.int .i64 (Lib.indexByte s.data.toList c)) ∧ w' = w := Any.strings_Index_one lays143 s c w
def lays221_ren : Go.Shelf.Ren := ⟨fun | 221 => 119 | 268 => 132 | 138 => 133 | 143 => 134 | 195 => 140 | 197 => 141 | 218 => 142 | 219 => 143 | 260 => 144 | 217 => 145 | 225 => 146 | 224 => 147 | 267 => 148 | 266 => 149 | 314 => 150 | n => n, fun | 9 => 9 | 3 => 3 | 31 => 93 | 4 => 4 | 0 => 0 | 105 => 215 | 21 => 21 | 5 => 5 | 46 => 44 | 119 => 173 | 139 => 176 | 138 => 175 | 146 => 218 | 51 => 196 | n => n, fun | 1 => 2 | 3 => 0 | 4 => 1 | n => n⟩
theorem lays221 : Go.Proofs.Lays.n221 Tryz.prog lays221_ren := {
  mixed := by kernel_rfl
  f138 := Tryz.func133.trans (congrArg some (by kernel_rfl))
  f143 := Tryz.func134.trans (congrArg some (by kernel_rfl))
  f195 := Tryz.func140.trans (congrArg some (by kernel_rfl))
  f197 := Tryz.func141.trans (congrArg some (by kernel_rfl))
  f217 := Tryz.func145.trans (congrArg some (by kernel_rfl))
  f218 := Tryz.func142.trans (congrArg some (by kernel_rfl))
  f219 := Tryz.func143.trans (congrArg some (by kernel_rfl))
  f221 := Tryz.func119.trans (congrArg some (by kernel_rfl))
  f224 := Tryz.func147.trans (congrArg some (by kernel_rfl))
  f225 := Tryz.func146.trans (congrArg some (by kernel_rfl))
  f260 := Tryz.func144.trans (congrArg some (by kernel_rfl))
  f266 := Tryz.func149.trans (congrArg some (by kernel_rfl))
  f267 := Tryz.func148.trans (congrArg some (by kernel_rfl))
  f268 := Tryz.func132.trans (congrArg some (by kernel_rfl))
  f314 := Tryz.func150.trans (congrArg some (by kernel_rfl))
  t0 := Tryz.underlying0
  a0 := Tryz.isAgg0
  z0 := Tryz.sizeOf0
  v0 := Tryz.zeroValue0
  t3 := Tryz.underlying3
  a3 := Tryz.isAgg3
  z3 := Tryz.sizeOf3
  v3 := Tryz.zeroValue3
  t4 := Tryz.underlying4
  a4 := Tryz.isAgg4
  z4 := Tryz.sizeOf4
  v4 := Tryz.zeroValue4
  t5 := Tryz.underlying5
  a5 := Tryz.isAgg5
  z5 := Tryz.sizeOf5
  v5 := Tryz.zeroValue5
  t9 := Tryz.underlying9
  a9 := Tryz.isAgg9
  z9 := Tryz.sizeOf9
  v9 := Tryz.zeroValue9
  t21 := Tryz.underlying21
  a21 := Tryz.isAgg21
  z21 := Tryz.sizeOf21
  v21 := Tryz.zeroValue21
  t31 := Tryz.underlying93
  a31 := Tryz.isAgg93
  z31 := Tryz.sizeOf93
  v31 := Tryz.zeroValue93
  t46 := Tryz.underlying44
  a46 := Tryz.isAgg44
  z46 := Tryz.sizeOf44
  v46 := Tryz.zeroValue44
  t51 := Tryz.underlying196
  a51 := Tryz.isAgg196
  z51 := Tryz.sizeOf196
  v51 := Tryz.zeroValue196
  t105 := Tryz.underlying215
  a105 := Tryz.isAgg215
  z105 := Tryz.sizeOf215
  v105 := Tryz.zeroValue215
  t119 := Tryz.underlying173
  a119 := Tryz.isAgg173
  z119 := Tryz.sizeOf173
  t138 := Tryz.underlying175
  a138 := Tryz.isAgg175
  z138 := Tryz.sizeOf175
  v138 := Tryz.zeroValue175
  t139 := Tryz.underlying176
  a139 := Tryz.isAgg176
  z139 := Tryz.sizeOf176
  v139 := Tryz.zeroValue176
  t146 := Tryz.underlying218
  a146 := Tryz.isAgg218
  z146 := Tryz.sizeOf218
  v146 := Tryz.zeroValue218
  g1 := by kernel_rfl
  g3 := by kernel_rfl
  g4 := by kernel_rfl }
open Go.RowKit Go.Lib in
theorem strings_genSplit (s sep : ByteArray) (sv : Nat) (n : Int) (N : Nat) (m : Int) (w : World) (hs : s.size < 4294967281) (hm : w.cell? ⟨2, 0, none⟩ = some (.int .i64 m)) (h1 : 1 ≤ sep.size) (hsv : sv ≤ sep.size) (hn0 : n ≠ 0) (hn63 : n ≤ 9223372036854775807) (hN : (N : Int) = min (if n < 0 then (Lib.countB s sep : Int) + 1 else n) ((s.size : Int) + 1)) :
    Calls Tryz.prog 119 #[.string s, .string sep, .int .i64 sv, .int .i64 n] w fun e w' =>
      e = .returned (.slice (some ⟨w.heap.size, 0, none⟩) (Lib.splitB sep sv (N - 1) s).length N) ∧ w' = w.alloc (.cells (Lib.cellsOf (Lib.splitB sep sv (N - 1) s) N) 9) := Any.strings_genSplit lays221 (by kernel_rfl) s sep sv n N m w hs hm h1 hsv hn0 hn63 hN
end Go.Proofs.YteajlfgbmefncaaGreatDoor
namespace Go.Proofs.YteajlfgbmefncaaGreatDoor
set_option linter.unusedVariables false
open Go.Shelf Go.RowKit

/-- the pieces of a text -/
def pieces (s : ByteArray) : List ByteArray := (pcs [] s.data.toList).map fun l => ⟨l.toArray⟩
theorem pieces_len (s : ByteArray) : 1 ≤ (pieces s).length ∧ (pieces s).length ≤ s.size + 1 := by
  unfold pieces; rw [List.length_map, ← len_data]; exact pcs_len _ _
theorem mk_data : ∀ (xs : List ByteArray) (L : List (List UInt8)), xs.map (·.data.toList) = L → xs = L.map fun l => ⟨l.toArray⟩
  | [], L, h => by subst h; rfl
  | x :: t, L, h => by
    subst h
    rw [List.map_cons, List.map_cons, ← mk_data t _ rfl]
theorem splitB_few (s : ByteArray) (h : (pieces s).length ≤ 8) : Lib.splitB ⟨#[46]⟩ 0 (min 9 (s.size + 1) - 1) s = pieces s := by
  refine mk_data _ _ ?_
  rw [Lib.splitB_data]
  show Lib.splitK [46] 0 _ _ = _
  have hl := pieces_len s
  unfold pieces at h hl
  rw [List.length_map] at h hl
  exact (splitK_pcs _ _).1 (by omega)
theorem splitB_many (s : ByteArray) (h : 8 < (pieces s).length) : 8 < (Lib.splitB ⟨#[46]⟩ 0 (min 9 (s.size + 1) - 1) s).length := by
  have hl := pieces_len s
  unfold pieces at h hl
  rw [List.length_map] at h hl
  have e : (Lib.splitB ⟨#[46]⟩ 0 (min 9 (s.size + 1) - 1) s).length = (Lib.splitK [46] 0 (min 9 (s.size + 1) - 1) s.data.toList).length := by
    rw [← List.length_map (f := fun x : ByteArray => x.data.toList), Lib.splitB_data]
  rw [e]
  have hk : min 9 (s.size + 1) - 1 = 8 := by omega
  rw [hk]
  by_cases h9 : (pcs [] s.data.toList).length ≤ 8 + 1
  · rw [(splitK_pcs 8 _).1 h9]; exact h
  · rw [(splitK_pcs 8 _).2 (by omega)]; omega

/-- strings lie in memory, from a block's first place on -/
def HeldS (w : World) (g : Nat) (xs : List ByteArray) : Prop := ∀ (j : Nat) (x : ByteArray), xs[j]? = some x → w.cell? ⟨g, j, none⟩ = some (.string x)
theorem heldS_old {w w' : World} {g : Nat} {xs : List ByteArray} (h : HeldS w g xs) (hb : Below w.heap.size w w') : HeldS w' g xs := by
  intro j z hj
  have hc := h j z hj
  have hlt : g < w.heap.size := by
    by_cases hg : g < w.heap.size
    · exact hg
    · simp [World.cell?, Array.getElem?_eq_none (Nat.le_of_not_lt hg)] at hc
  rw [hb.cell hlt]; exact hc

set_option maxHeartbeats 1000000 in
theorem splitN_any (s : ByteArray) (w : World) (hs : s.size ≤ 4000000000) :
    Calls Tryz.prog 100 #[.string s, .string ⟨#[46]⟩, .int .i64 9] w fun e w' =>
      e = .returned (.slice (some ⟨w.heap.size, 0, none⟩) (Lib.splitB ⟨#[46]⟩ 0 (min 9 (s.size + 1) - 1) s).length (min 9 (s.size + 1))) ∧ w' = w.alloc (.cells (Lib.cellsOf (Lib.splitB ⟨#[46]⟩ 0 (min 9 (s.size + 1) - 1) s) (min 9 (s.size + 1))) 9) := by
  have hG : Calls Tryz.prog 119 #[.string s, .string ⟨#[46]⟩, .int .i64 0, .int .i64 9] w fun e w' =>
      e = .returned (.slice (some ⟨w.heap.size, 0, none⟩) (Lib.splitB ⟨#[46]⟩ 0 (min 9 (s.size + 1) - 1) s).length (min 9 (s.size + 1))) ∧ w' = w.alloc (.cells (Lib.cellsOf (Lib.splitB ⟨#[46]⟩ 0 (min 9 (s.size + 1) - 1) s) (min 9 (s.size + 1))) 9) :=
    Any.strings_genSplit_core lays221 (by kernel_rfl) s ⟨#[46]⟩ 0 9 (min 9 (s.size + 1)) w (by omega) (by decide) (by decide)
      (fun x c hx => (strings_Index_one x 46 _).mono fun e w' ⟨he, hw⟩ => ⟨by
        rw [he]
        show _ = Ending.returned (Value.int .i64 (Lib.index x.data.toList [46]))
        rw [Lib.index_one], hw⟩)
      ((strings_Count_one s 46 w).mono fun e w' ⟨he, hw⟩ => ⟨by
        rw [he]
        show _ = Ending.returned (Value.int .i64 ((Lib.count s.data.toList [46] : Nat) : Int))
        rw [Lib.count_one]; rfl, hw⟩)
      (by decide) (by decide) (by rw [if_neg (by decide)]; omega)
  go_enter Tryz.func100, Tryz.ntmps100
  go_wp2_with fail
  refine hG.mono ?_
  rintro e w1 ⟨rfl, hw⟩
  go_wp2_with fail
  go_ret
  exact ⟨rfl, rfl⟩

theorem cellsOf_get {xs : List ByteArray} {N j : Nat} {x : ByteArray} (h : xs[j]? = some x) : (Lib.cellsOf xs N)[j]? = some (.string x) := by
  have hlt := (List.getElem?_eq_some_iff.1 h).1
  unfold Lib.cellsOf
  rw [List.getElem?_toArray, List.getElem?_append_left (by simpa using hlt)]
  simp [h]
theorem setSame (w : World) (g j : Nat) (c : Array Value) (t : TypeId) (v : Value) (hg : w.heap[g]? = some (.cells c t (0, 0))) (hv : c[j]? = some v) : (w.setCell ⟨g, j, none⟩ v).heap[g]? = some (.cells c t (0, 0)) := by
  rw [setCell_eq_setRow _ _ _ _ _ _ _ hg]
  rw [setRow_heap w g c _ t _ hg]
  congr 2
  apply Array.ext_getElem?
  intro k
  rw [Array.getElem?_setIfInBounds]
  split
  · rename_i h
    subst h
    split
    · exact hv.symm
    · rename_i h2
      rw [Array.getElem?_eq_none (by omega)]
  · rfl
def isPlain (x : ByteArray) : Bool := nameOf (runes x) && !resOf x.toList
theorem alloc_heap (w : World) (o : Obj) : (w.alloc o).heap[w.heap.size]? = some o := by
  show (w.heap.push o)[w.heap.size]? = _
  simp
theorem blk_lt {w : World} {b : Nat} {o : Obj} (h : w.heap[b]? = some o) : b < w.heap.size := (Array.getElem?_eq_some_iff.1 h).1
/-- all pieces are names that aren't reserved -/
def allPlain (s : ByteArray) : Bool := (pieces s).all isPlain
theorem plain_of (x : ByteArray) : isPlain x = (nameOf (runes x) && !resOf x.toList) := rfl
theorem all_dropS {l : List ByteArray} {k : Nat} {z : ByteArray} (h : l[k]? = some z) (p : ByteArray → Bool) : (l.drop k).all p = (p z && (l.drop (k + 1)).all p) := by
  have hlt := (List.getElem?_eq_some_iff.1 h).1
  rw [List.drop_eq_getElem_cons hlt, List.all_cons, (List.getElem?_eq_some_iff.1 h).2]
theorem piece_size {s : ByteArray} {x : ByteArray} (h : x ∈ pieces s) : x.size ≤ s.size := by
  have : ∀ (l cur : List UInt8) (y : List UInt8), y ∈ pcs cur l → y.length ≤ cur.length + l.length := by
    intro l
    induction l with
    | nil => intro cur y hy; simp [pcs] at hy; subst hy; simp
    | cons b t ih =>
      intro cur y hy
      rw [pcs] at hy
      split at hy
      · rcases List.mem_cons.1 hy with rfl | hy
        · simp
        · have := ih [] y hy; simp at this ⊢; omega
      · have := ih _ y hy; simp at this ⊢; omega
  unfold pieces at h
  rw [List.mem_map] at h
  obtain ⟨y, hy, rfl⟩ := h
  have h2 := this s.data.toList [] y hy
  rw [len_data] at h2
  have : (ByteArray.mk y.toArray).size = y.length := by show y.toArray.size = _; simp
  rw [this]; simpa using h2
end Go.Proofs.YteajlfgbmefncaaGreatDoor
namespace Go.Proofs.YteajlfgbmefncaaGreatDoor
set_option linter.unusedVariables false
open Go.ChangeShapes Go.WideShapes Go.ChangeAt Go.RowKit

theorem retI {a b : Int} (h : a = b) : Ending.returned (.int .i64 a) = .returned (.int .i64 b) := by rw [h]
set_option maxHeartbeats 1000000 in
theorem scalarR_any (s : ByteArray) (w : World) :
    Calls Tryz.prog 91 #[.string s] w fun e w' => e = .returned (.int .i64 (scalarOf s.toList)) ∧ w' = w := by
  go_enter Tryz.func91, Tryz.ntmps91
  go_wp2
  all_goals
    go_ret
    refine ⟨retI ?_, rfl⟩
    unfold scalarOf
    simp [*]
set_option maxHeartbeats 1000000 in
theorem reservedR_any (s : ByteArray) (w : World) :
    Calls Tryz.prog 63 #[.string s] w fun e w' => e = .returned (.bool (resOf s.toList)) ∧ w' = w := by
  have hS := fun W => scalarR_any s W
  unfold resOf
  generalize scalarOf s.toList = k at *
  go_enter Tryz.func63, Tryz.ntmps63
  go_wp2_with (go_at_call 91; refine (hS _).mono ?_; rintro e w' ⟨rfl, rfl⟩)
  all_goals
    go_ret
    refine ⟨retB ?_, rfl⟩
    clear hS
    first
      | (simp [*]; done)
      | simp_all
end Go.Proofs.YteajlfgbmefncaaGreatDoor
namespace Go.Proofs.YteajlfgbmefncaaGreatDoor
set_option linter.unusedVariables false
open Go.RowKit Go.Maps Go.WideMaps

theorem keyedS : Keyed Tryz.prog 9 := string_keyed Tryz.underlying9
theorem keyedI : Keyed Tryz.prog 3 := int_keyed Tryz.underlying3
/-- a set that the call has made; lit: how a key reads -/
def IsSet {α : Type} (K : TypeId) (lit : α → Lit) (w : World) (b : Nat) (ks : List α) : Prop :=
  ∃ n, n ≤ ks.length ∧ w.ownsMap (H := Unit) Tryz.prog K unitElem b n (setOf (.agg []) (ks.map lit))
def litS (x : List UInt8) : Lit := .string x
def litI (x : Int) : Lit := .int .i64 x
theorem litS_key (x : List UInt8) : WideAt.IsKeyLit (litS x) := trivial
theorem litI_key (x : Int) : WideAt.IsKeyLit (litI x) := trivial
theorem litS_one (x y : List UInt8) (h : litS x = litS y) : x = y := by injection h
theorem litI_one (x y : Int) (h : litI x = litI y) : x = y := by injection h
theorem IsSet.old {α : Type} {K : TypeId} {lit : α → Lit} {w w' : World} {b : Nat} {ks : List α} (h : IsSet K lit w b ks) (hb : w'.heap[b]? = w.heap[b]?) : IsSet K lit w' b ks := by
  obtain ⟨n, hn, es, cl, h1, h2⟩ := h
  exact ⟨n, hn, es, cl, hb.trans h1, h2⟩
theorem IsSet.lt {α : Type} {K : TypeId} {lit : α → Lit} {w : World} {b : Nat} {ks : List α} (h : IsSet K lit w b ks) : b < w.heap.size := by
  obtain ⟨n, hn, es, cl, h1, h2⟩ := h
  exact (Array.getElem?_eq_some_iff.1 h1).1
theorem isSet_made {α : Type} (K : TypeId) (lit : α → Lit) {w : World} {b : Nat} (h : w.heap[b]? = some (.map #[] 0)) : IsSet K lit w b ([] : List α) :=
  ⟨0, Nat.zero_le _, #[], 0, h, ⟨by simp, MapKept.stamped_empty 0, by simp⟩, Nat.le_refl _, rfl⟩
theorem mem_any {α : Type} {lit : α → Lit} (hk : ∀ x, WideAt.IsKeyLit (lit x)) (hi : ∀ x y, lit x = lit y → x = y) [DecidableEq α] (ks : List α) (x : α) : (ks.map lit).any (fun y => y.sameKey (lit x)) = decide (x ∈ ks) := by
  rw [Bool.eq_iff_iff]
  simp only [List.any_map, List.any_eq_true, decide_eq_true_iff, Function.comp]
  constructor
  · rintro ⟨y, hy, h⟩
    have := hi _ _ ((WideAt.sameKey_iff (hk x)).1 h)
    subst this; exact hy
  · intro h
    exact ⟨x, h, (WideAt.sameKey_iff (hk x)).2 rfl⟩
/-- one key more -/
theorem set_size {α : Type} {lit : α → Lit} (hk : ∀ x, WideAt.IsKeyLit (lit x)) (hi : ∀ x y, lit x = lit y → x = y) [DecidableEq α] (ks : List α) (x : α) :
    Maps.size ((setOf (H := Unit) (.agg []) (ks.map lit)).put (lit x) (.agg [])) = Maps.size (setOf (H := Unit) (.agg []) (ks.map lit)) + (if x ∈ ks then 0 else 1) := by
  have hkk : ∀ y ∈ ks.map lit, WideAt.IsKeyLit y := by
    intro y hy
    obtain ⟨z, _, rfl⟩ := List.mem_map.1 hy
    exact hk z
  rw [size_put (tidy_setOf _ _ hkk), has_setOf _ _ _ hkk, mem_any hk hi]
  by_cases h : x ∈ ks <;> simp [h]

set_option maxHeartbeats 4000000 in
theorem addS_any (b : Nat) (ks : List (List UInt8)) (x : (List UInt8)) (w : World) (h : IsSet 9 litS w b ks) (hx : x.length ≤ 1000000000000) (hl : ks.length ≤ 1000000) :
    Calls Tryz.prog 45 #[.map (some b), .string (mkB x)] w fun e w' => e = .returned (.bool (!decide (x ∈ ks))) ∧ IsSet 9 litS w' b (ks ++ [x]) ∧ w.grownBy w' (some b) := by
  obtain ⟨n, hn, hown⟩ := h
  have HOWN := Lib.hid hown
  have hkey : keyOf Tryz.prog 9 (.string (mkB x)) = some (litS x) := by
    have := keyOf_string_mk (P := Tryz.prog) (s := mkB x) Tryz.underlying9 (by rw [mkB_size]; unfold maxLen; omega)
    simpa [litS, mkB] using this
  have hsz := set_size litS_key litS_one ks x
  obtain ⟨D, hD⟩ : ∃ D, setOf (H := Unit) (.agg []) (ks.map litS) = D := ⟨_, rfl⟩
  have hsl := hown.size_le
  rw [hD] at hown hsz HOWN hsl
  obtain ⟨B, hB⟩ : ∃ B, (!decide (x ∈ ks)) = B := ⟨_, rfl⟩
  obtain ⟨s1, hs1⟩ : ∃ s1, Maps.size D = s1 := ⟨_, rfl⟩
  obtain ⟨s2, hs2⟩ : ∃ s2, Maps.size (D.put (litS x) (.agg [])) = s2 := ⟨_, rfl⟩
  have HRES : Hid (((s1 : Nat) : Int) < ((s2 : Nat) : Int) ↔ B = true) := by
    refine (?_ : _ ↔ _)
    rw [← hB, ← hs1, ← hs2, hsz]
    by_cases hm : x ∈ ks <;> simp [hm] <;> omega
  have HD := Lib.hid hD
  have HS1 := Lib.hid hs1
  have HS2 := Lib.hid hs2
  rw [hB]
  clear hD hsz hB hs1 hs2
  go_enter Tryz.func45, Tryz.ntmps45
  go_wp2_with (first
    | (at_len; refine wpList_len_own _ rfl _ 112 rfl 9 146 Tryz.underlying112 _ b n D rfl HOWN.out ?_; rw [HS1.out])
    | (at_mapUpdate; refine wpList_mapUpdate_own _ rfl _ _ _ 112 rfl 9 146 keyedS Tryz.underlying112 _ b n D rfl HOWN.out (by unfold maxLen; omega) _ _ _ rfl rfl hkey _ [] unitElem_mk ?_; intro w1 hown1 hgr1; have HOWN1 := Lib.hid hown1; have HGR := Lib.hid hgr1; clear hown1 hgr1 HOWN HS1)
    | (at_len; refine wpList_len_own _ rfl _ 112 rfl 9 146 Tryz.underlying112 _ b (n + 1) (D.put (litS x) (.agg [])) rfl HOWN1.out ?_; rw [HS2.out]))
  have hBv : decide (s1 < s2) = B := by
    have := HRES.out
    cases B
    · simp at this ⊢; omega
    · simp at this ⊢; omega
  rw [hBv]
  go_ret
  refine ⟨rfl, ⟨n + 1, by simp; omega, ?_⟩, HGR.out⟩
  rw [List.map_append, List.map_cons, List.map_nil, setOf_snoc, HD.out]
  exact HOWN1.out
set_option maxHeartbeats 4000000 in
theorem addI_any (b : Nat) (ks : List Int) (x : Int) (w : World) (h : IsSet 3 litI w b ks) (hx : (Lit.int .i64 x).wf = true) (hl : ks.length ≤ 1000000) :
    Calls Tryz.prog 75 #[.map (some b), .int .i64 x] w fun e w' => e = .returned (.bool (!decide (x ∈ ks))) ∧ IsSet 3 litI w' b (ks ++ [x]) ∧ w.grownBy w' (some b) := by
  obtain ⟨n, hn, hown⟩ := h
  have HOWN := Lib.hid hown
  have hkey : keyOf Tryz.prog 3 (.int .i64 x) = some (litI x) := keyOf_int_mk Tryz.underlying3 hx
  have hsz := set_size litI_key litI_one ks x
  obtain ⟨D, hD⟩ : ∃ D, setOf (H := Unit) (.agg []) (ks.map litI) = D := ⟨_, rfl⟩
  have hsl := hown.size_le
  rw [hD] at hown hsz HOWN hsl
  obtain ⟨B, hB⟩ : ∃ B, (!decide (x ∈ ks)) = B := ⟨_, rfl⟩
  obtain ⟨s1, hs1⟩ : ∃ s1, Maps.size D = s1 := ⟨_, rfl⟩
  obtain ⟨s2, hs2⟩ : ∃ s2, Maps.size (D.put (litI x) (.agg [])) = s2 := ⟨_, rfl⟩
  have HRES : Hid (((s1 : Nat) : Int) < ((s2 : Nat) : Int) ↔ B = true) := by
    refine (?_ : _ ↔ _)
    rw [← hB, ← hs1, ← hs2, hsz]
    by_cases hm : x ∈ ks <;> simp [hm] <;> omega
  have HD := Lib.hid hD
  have HS1 := Lib.hid hs1
  have HS2 := Lib.hid hs2
  rw [hB]
  clear hD hsz hB hs1 hs2
  go_enter Tryz.func75, Tryz.ntmps75
  go_wp2_with (first
    | (at_len; refine wpList_len_own _ rfl _ 149 rfl 3 146 Tryz.underlying149 _ b n D rfl HOWN.out ?_; rw [HS1.out])
    | (at_mapUpdate; refine wpList_mapUpdate_own _ rfl _ _ _ 149 rfl 3 146 keyedI Tryz.underlying149 _ b n D rfl HOWN.out (by unfold maxLen; omega) _ _ _ rfl rfl hkey _ [] unitElem_mk ?_; intro w1 hown1 hgr1; have HOWN1 := Lib.hid hown1; have HGR := Lib.hid hgr1; clear hown1 hgr1 HOWN HS1)
    | (at_len; refine wpList_len_own _ rfl _ 149 rfl 3 146 Tryz.underlying149 _ b (n + 1) (D.put (litI x) (.agg [])) rfl HOWN1.out ?_; rw [HS2.out]))
  have hBv : decide (s1 < s2) = B := by
    have := HRES.out
    cases B
    · simp at this ⊢; omega
    · simp at this ⊢; omega
  rw [hBv]
  go_ret
  refine ⟨rfl, ⟨n + 1, by simp; omega, ?_⟩, HGR.out⟩
  rw [List.map_append, List.map_cons, List.map_nil, setOf_snoc, HD.out]
  exact HOWN1.out
end Go.Proofs.YteajlfgbmefncaaGreatDoor
namespace Go.Proofs.YteajlfgbmefncaaGreatDoor
set_option linter.unusedVariables false
open Go.ChangeShapes Go.WideShapes Go.ChangeAt Go.RowKit

def fdrow (x : FD) : List Value := [.int .i64 x.num, .string (mkB x.name), .int .i64 x.kind, .bool x.rep, .int .i64 x.type]
def vdrow (x : VD) : List Value := [.string (mkB x.name), .int .i64 x.num]
def tdrow (x : TD) : List Value := [.int .i64 x.id, .string (mkB x.service), .string (mkB x.name), .int .i64 x.inp, .int .i64 x.out]
/-- named tables lie in memory: a name and a slice each -/
def HeldN {α β : Type} (nm : α → List UInt8) (kids : α → List β) (k : Nat) (row : β → List Value) (w : World) (S : Nat → Prop) (v : Value) (xs : List α) : Prop :=
  ∃ ad c, v = .slice ad xs.length c ∧ xs.length ≤ c ∧ (xs = [] ∨ ∃ g o, ad = some ⟨g, o, none⟩ ∧ S g ∧ ∀ (j : Nat) (x : α), xs[j]? = some x →
      ∃ ka kc, w.cell? ⟨g, o + j * 2, none⟩ = some (.string (mkB (nm x))) ∧ w.cell? ⟨g, o + j * 2 + 1, none⟩ = some (.slice ka (kids x).length kc) ∧ RowsIn w S k row (.slice ka (kids x).length kc) (kids x))
def HeldM := @HeldN MD FD MD.name MD.fields 5 fdrow
def HeldE := @HeldN ED VD ED.name ED.values 2 vdrow
def HeldT (w : World) (S : Nat → Prop) (v : Value) (ts : List TD) : Prop := RowsIn w S 5 tdrow v ts
/-- a schema lies in memory -/
def HeldSc (w : World) (S : Nat → Prop) (a b c : Value) (s : SC) : Prop := HeldM w S a s.ms ∧ HeldE w S b s.es ∧ HeldT w S c s.ts
section
variable {α β : Type} {nm : α → List UInt8} {kids : α → List β} {k : Nat} {row : β → List Value} {w w' W : World} {S S' : Nat → Prop} {v : Value} {xs : List α}
theorem HeldN.old (h : HeldN nm kids k row w S v xs) (hb : ∀ b, S b → w'.heap[b]? = w.heap[b]?) : HeldN nm kids k row w' S v xs := by
  obtain ⟨ad, c, hv, hc, h⟩ := h
  refine ⟨ad, c, hv, hc, h.imp id ?_⟩
  rintro ⟨g, o, ha, hg, h⟩
  refine ⟨g, o, ha, hg, fun j d hj => ?_⟩
  obtain ⟨ka, kc, h0, h1, h2⟩ := h j d hj
  exact ⟨ka, kc, by rw [World.cell?_of_block (hb g hg)]; exact h0, by rw [World.cell?_of_block (hb g hg)]; exact h1, h2.old hb⟩
theorem HeldN.more (h : HeldN nm kids k row w S v xs) (hb : ∀ b, S b → S' b) : HeldN nm kids k row w S' v xs := by
  obtain ⟨ad, c, hv, hc, h⟩ := h
  refine ⟨ad, c, hv, hc, h.imp id ?_⟩
  rintro ⟨g, o, ha, hg, h⟩
  refine ⟨g, o, ha, hb g hg, fun j d hj => ?_⟩
  obtain ⟨ka, kc, h0, h1, h2⟩ := h j d hj
  exact ⟨ka, kc, h0, h1, h2.more hb⟩
theorem HeldN.isSl (h : HeldN nm kids k row w S v xs) : ∃ ad c, v = .slice ad xs.length c := by
  obtain ⟨ad, c, hv, _⟩ := h
  exact ⟨ad, c, hv⟩
theorem HeldN.nil (ad : Option Addr) (c : Nat) : HeldN nm kids k row w S (.slice ad 0 c) ([] : List α) := ⟨ad, c, rfl, Nat.zero_le _, .inl rfl⟩
theorem HeldN.at (h : HeldN nm kids k row w S v xs) (hW : ∀ b, S b → W.heap[b]? = w.heap[b]?) {q : Nat} {x : α} (hx : xs[q]? = some x) :
    ∃ g o c ka kc, v = .slice (some ⟨g, o, none⟩) xs.length c ∧ S g ∧ W.cell? ⟨g, o + q * 2, none⟩ = some (.string (mkB (nm x))) ∧ W.cell? ⟨g, o + q * 2 + 1, none⟩ = some (.slice ka (kids x).length kc) ∧ RowsIn W S k row (.slice ka (kids x).length kc) (kids x) := by
  obtain ⟨ad, c, hsl, hcc, hrows⟩ := h
  rcases hrows with h0 | ⟨g, o, had, hg, hrow⟩
  · rw [h0] at hx; simp at hx
  subst had
  obtain ⟨ka, kc, h0, h1, h2⟩ := hrow q x hx
  have hb := hW g hg
  exact ⟨g, o, c, ka, kc, hsl, hg, by rw [World.cell?_of_block hb]; exact h0, by rw [World.cell?_of_block hb]; exact h1, h2.old hW⟩
end
theorem fd_at {w W : World} {S : Nat → Prop} {v : Value} {xs : List FD} (h : RowsIn w S 5 fdrow v xs) (hW : ∀ b, S b → W.heap[b]? = w.heap[b]?) {q : Nat} {x : FD} (hx : xs[q]? = some x) :
    ∃ g o c, v = .slice (some ⟨g, o, none⟩) xs.length c ∧ S g ∧ W.cell? ⟨g, o + q * 5, none⟩ = some (.int .i64 x.num) ∧ W.cell? ⟨g, o + q * 5 + 1, none⟩ = some (.string (mkB x.name)) ∧ W.cell? ⟨g, o + q * 5 + 2, none⟩ = some (.int .i64 x.kind) ∧
      W.cell? ⟨g, o + q * 5 + 3, none⟩ = some (.bool x.rep) ∧ W.cell? ⟨g, o + q * 5 + 4, none⟩ = some (.int .i64 x.type) := by
  obtain ⟨ad, c, hsl, hcc, hrows⟩ := h
  rcases hrows with h0 | ⟨g, o, had, hg, hrow⟩
  · rw [h0] at hx; simp at hx
  subst had
  have hb := hW g hg
  have hc : ∀ i u, (fdrow x)[i]? = some u → W.cell? ⟨g, o + (q * 5 + i), none⟩ = some u := fun i u hu => by
    rw [World.cell?_of_block hb]; exact hrow q x hx i u hu
  refine ⟨g, o, c, hsl, hg, ?_, ?_, ?_, ?_, ?_⟩
  · have := hc 0 _ rfl; simpa [Nat.add_assoc] using this
  · have := hc 1 _ rfl; simpa [Nat.add_assoc] using this
  · have := hc 2 _ rfl; simpa [Nat.add_assoc] using this
  · have := hc 3 _ rfl; simpa [Nat.add_assoc] using this
  · have := hc 4 _ rfl; simpa [Nat.add_assoc] using this
/-! a row grows by one element -/
section
variable {T t : TypeId} {k bytes base n : Nat} {z : Value} {wx : World} {v : Value} {xs : List Value}
theorem row_pushL (ht : Tryz.prog.underlying t = some (.slice T)) (hin : (Tryz.prog.info? T).map (fun i => (i.zero, i.size, i.bytes)) = some (some z, k, bytes)) (hzk : z.cells.size = k) (hk0 : 0 < k)
    (h : wx.ownsRow base T k v n xs) (hb0 : base ≤ wx.heap.size) (r : List Value) (hrl : r.length = k) (hr1 : ∀ u ∈ r, u.oneCell' = true) (B : Nat) (hB : wx.heap[B]? = some (.cells r.toArray T (0, 0)))
    {ops : Array Oper} {rest : List Oper} {o : Oper} {a : Act} {Q : Exit → Act → World → Prop} (hgd : o.guard = none) (s' x' : Operand)
    (ho : o.op = .call { callee := .builtin .append, args := #[s', x'], argTypes := #[t, t] }) (hs : a.eval s' = v) (hx : a.eval x' = .slice (some ⟨B, 0, none⟩) 1 1) (hm : n + 1 ≤ maxLen) (hbd : (n + 1) * bytes ≤ 140737488355328)
    (hk : ∀ g cap W, W.ownsRow base T k (.slice (some ⟨g, 0, none⟩) (n + 1) cap) (n + 1) (xs ++ r) → wx.grownBy W v.ownBlock → (v.ownBlock = some g ∨ g = wx.heap.size) → g < W.heap.size → wpList Tryz.prog ops Q rest (a.put o.dst (.slice (some ⟨g, 0, none⟩) (n + 1) cap)) W) :
    wpList Tryz.prog ops Q (o :: rest) a wx := by
  obtain ⟨i0, hi0, hz0, hz1, hz2⟩ := info_parts hin
  exact wpList_append_lies _ hgd s' x' t ho base T i0 z k bytes ht hi0 hz0 hz1 hz2 hzk hk0 v n xs hs h ⟨B, 0, none⟩ 1 1 r hx (by rw [hrl, Nat.one_mul]) (World.news_of_block (cs := r.toArray) (t := T) (fr := (0, 0)) hB) hr1 (by decide) hm hbd hb0 _ rfl hk
end
/-- a row of the call's own, cut by its last element -/
theorem own_cut {w : World} {base : Nat} {T : TypeId} {g n cap : Nat} {xs : List Value} {x : Value} (h : w.ownsRow base T 1 (.slice (some ⟨g, 0, none⟩) (n + 1) cap) (n + 1) (xs ++ [x])) : w.ownsRow base T 1 (.slice (some ⟨g, 0, none⟩) n cap) n xs := by
  obtain ⟨hl, ⟨hv, h0⟩ | ⟨g', cap', cur, hv, hg, hh, h3, h4, h5, h6⟩⟩ := h
  · cases hv
  · have hv' : g = g' ∧ cap = cap' := by
      injection hv with h1 h2 h3
      injection h1 with h1
      injection h1 with h1
      exact ⟨h1, h3⟩
    obtain ⟨rfl, rfl⟩ := hv'
    have hxl : xs.length = n := by simpa using hl
    refine ⟨by omega, .inr ⟨g, cap, cur, rfl, hg, hh, by omega, h4, h5, ?_⟩⟩
    have e1 : cur.toList.take n = (cur.toList.take ((n + 1) * 1)).take n := by rw [List.take_take, Nat.min_eq_left (by omega)]
    have e2 : (xs ++ [x]).take n = xs := by rw [List.take_append_of_le_length (by omega), List.take_of_length_le (l := xs) (by omega)]
    rw [Nat.mul_one, e1, h6, e2]
/-- the last element of such a row -/
theorem own_last {w : World} {base : Nat} {T : TypeId} {g n cap : Nat} {xs : List Value} {x : Value} (h : w.ownsRow base T 1 (.slice (some ⟨g, 0, none⟩) (n + 1) cap) (n + 1) (xs ++ [x])) : w.cell? ⟨g, n, none⟩ = some x ∧ n + 1 ≤ cap := by
  obtain ⟨hl, ⟨hv, h0⟩ | ⟨g', cap', cur, hv, hg, hh, h3, h4, h5, h6⟩⟩ := h
  · cases hv
  · have hv' : g = g' ∧ cap = cap' := by
      injection hv with h1 h2 h3
      injection h1 with h1
      injection h1 with h1
      exact ⟨h1, h3⟩
    obtain ⟨rfl, rfl⟩ := hv'
    have hxl : xs.length = n := by simpa using hl
    refine ⟨?_, h3⟩
    have e : (cur.toList.take ((n + 1) * 1))[n]? = some x := by rw [h6, List.getElem?_append_right (by omega), hxl]; simp
    rw [List.getElem?_take, if_pos (by omega)] at e
    simp only [World.cell?, hh]
    simpa using e
end Go.Proofs.YteajlfgbmefncaaGreatDoor
namespace Go.Proofs.YteajlfgbmefncaaGreatDoor
theorem cell_at {w : World} {B : Nat} {cs : Array Value} {T : TypeId} {fr : Nat × Nat} {v : Value} (h : w.heap[B]? = some (.cells cs T fr)) (i : Nat) (e : cs.toList[i]? = some v) : w.cell? ⟨B, i, none⟩ = some v := by
  simp only [World.cell?, h]
  simpa using e
end Go.Proofs.YteajlfgbmefncaaGreatDoor
