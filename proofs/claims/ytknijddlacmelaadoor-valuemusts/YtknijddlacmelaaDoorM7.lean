/-
  What the library functions that this program calls answer, as theorems over this translation: each is one application of a theorem of the given library. Nothing is proved of the program itself here.
  The walk over the library's strings.SplitN at a dot.
-/
import Derived.Shelf.Strings.Search3
import Derived.Shelf.Strings.Split
import Derived.Shelf.LaysM
import Derived.Ground.NamesProg
import Derived.Test.YtknijddlacmelaaDoorProg
import Derived.Test.YtknijddlacmelaaDoorM1
import Derived.Test.YtknijddlacmelaaDoorM0
import Derived.Lib.IndexBytes
namespace Go.Proofs.YtknijddlacmelaaDoor
open Go.Shelf
def lays143_ren : Go.Shelf.Ren := ⟨fun | 143 => 70 | 219 => 77 | 217 => 79 | 225 => 80 | 224 => 81 | 267 => 82 | 266 => 83 | 314 => 84 | n => n, fun | 9 => 9 | 3 => 3 | 4 => 4 | 5 => 5 | 46 => 136 | 146 => 161 | 51 => 149 | n => n, fun | 1 => 2 | n => n⟩
theorem lays143 : Go.Proofs.Lays.n143 Tryd.prog lays143_ren := {
  mixed := by kernel_rfl
  f143 := Tryd.func70.trans (congrArg some (by kernel_rfl))
  f217 := Tryd.func79.trans (congrArg some (by kernel_rfl))
  f219 := Tryd.func77.trans (congrArg some (by kernel_rfl))
  f224 := Tryd.func81.trans (congrArg some (by kernel_rfl))
  f225 := Tryd.func80.trans (congrArg some (by kernel_rfl))
  f266 := Tryd.func83.trans (congrArg some (by kernel_rfl))
  f267 := Tryd.func82.trans (congrArg some (by kernel_rfl))
  f314 := Tryd.func84.trans (congrArg some (by kernel_rfl))
  t3 := Tryd.underlying3
  a3 := Tryd.isAgg3
  z3 := Tryd.sizeOf3
  v3 := Tryd.zeroValue3
  t4 := Tryd.underlying4
  a4 := Tryd.isAgg4
  z4 := Tryd.sizeOf4
  v4 := Tryd.zeroValue4
  t5 := Tryd.underlying5
  a5 := Tryd.isAgg5
  z5 := Tryd.sizeOf5
  v5 := Tryd.zeroValue5
  t9 := Tryd.underlying9
  a9 := Tryd.isAgg9
  z9 := Tryd.sizeOf9
  v9 := Tryd.zeroValue9
  t46 := Tryd.underlying136
  a46 := Tryd.isAgg136
  z46 := Tryd.sizeOf136
  v46 := Tryd.zeroValue136
  t51 := Tryd.underlying149
  a51 := Tryd.isAgg149
  z51 := Tryd.sizeOf149
  v51 := Tryd.zeroValue149
  t146 := Tryd.underlying161
  a146 := Tryd.isAgg161
  z146 := Tryd.sizeOf161
  v146 := Tryd.zeroValue161
  g1 := by kernel_rfl }
open Go.RowKit Go.Lib in
theorem strings_Index_one (s : ByteArray) (c : UInt8) (w : World) :
    Calls Tryd.prog 70 #[.string s, .string ⟨#[c]⟩] w fun e w' => e = .returned (.int .i64 (Lib.indexByte s.data.toList c)) ∧ w' = w := Any.strings_Index_one lays143 s c w
def lays221_ren : Go.Shelf.Ren := ⟨fun | 221 => 61 | 268 => 68 | 138 => 69 | 143 => 70 | 195 => 74 | 197 => 75 | 218 => 76 | 219 => 77 | 260 => 78 | 217 => 79 | 225 => 80 | 224 => 81 | 267 => 82 | 266 => 83 | 314 => 84 | n => n, fun | 9 => 9 | 3 => 3 | 31 => 111 | 4 => 4 | 0 => 0 | 105 => 158 | 21 => 21 | 5 => 5 | 46 => 136 | 119 => 132 | 139 => 135 | 138 => 134 | 146 => 161 | 51 => 149 | n => n, fun | 1 => 2 | 3 => 0 | 4 => 1 | n => n⟩
theorem lays221 : Go.Proofs.Lays.n221 Tryd.prog lays221_ren := {
  mixed := by kernel_rfl
  f138 := Tryd.func69.trans (congrArg some (by kernel_rfl))
  f143 := Tryd.func70.trans (congrArg some (by kernel_rfl))
  f195 := Tryd.func74.trans (congrArg some (by kernel_rfl))
  f197 := Tryd.func75.trans (congrArg some (by kernel_rfl))
  f217 := Tryd.func79.trans (congrArg some (by kernel_rfl))
  f218 := Tryd.func76.trans (congrArg some (by kernel_rfl))
  f219 := Tryd.func77.trans (congrArg some (by kernel_rfl))
  f221 := Tryd.func61.trans (congrArg some (by kernel_rfl))
  f224 := Tryd.func81.trans (congrArg some (by kernel_rfl))
  f225 := Tryd.func80.trans (congrArg some (by kernel_rfl))
  f260 := Tryd.func78.trans (congrArg some (by kernel_rfl))
  f266 := Tryd.func83.trans (congrArg some (by kernel_rfl))
  f267 := Tryd.func82.trans (congrArg some (by kernel_rfl))
  f268 := Tryd.func68.trans (congrArg some (by kernel_rfl))
  f314 := Tryd.func84.trans (congrArg some (by kernel_rfl))
  t0 := Tryd.underlying0
  a0 := Tryd.isAgg0
  z0 := Tryd.sizeOf0
  v0 := Tryd.zeroValue0
  t3 := Tryd.underlying3
  a3 := Tryd.isAgg3
  z3 := Tryd.sizeOf3
  v3 := Tryd.zeroValue3
  t4 := Tryd.underlying4
  a4 := Tryd.isAgg4
  z4 := Tryd.sizeOf4
  v4 := Tryd.zeroValue4
  t5 := Tryd.underlying5
  a5 := Tryd.isAgg5
  z5 := Tryd.sizeOf5
  v5 := Tryd.zeroValue5
  t9 := Tryd.underlying9
  a9 := Tryd.isAgg9
  z9 := Tryd.sizeOf9
  v9 := Tryd.zeroValue9
  t21 := Tryd.underlying21
  a21 := Tryd.isAgg21
  z21 := Tryd.sizeOf21
  v21 := Tryd.zeroValue21
  t31 := Tryd.underlying111
  a31 := Tryd.isAgg111
  z31 := Tryd.sizeOf111
  v31 := Tryd.zeroValue111
  t46 := Tryd.underlying136
  a46 := Tryd.isAgg136
  z46 := Tryd.sizeOf136
  v46 := Tryd.zeroValue136
  t51 := Tryd.underlying149
  a51 := Tryd.isAgg149
  z51 := Tryd.sizeOf149
  v51 := Tryd.zeroValue149
  t105 := Tryd.underlying158
  a105 := Tryd.isAgg158
  z105 := Tryd.sizeOf158
  v105 := Tryd.zeroValue158
  t119 := Tryd.underlying132
  a119 := Tryd.isAgg132
  z119 := Tryd.sizeOf132
  t138 := Tryd.underlying134
  a138 := Tryd.isAgg134
  z138 := Tryd.sizeOf134
  v138 := Tryd.zeroValue134
  t139 := Tryd.underlying135
  a139 := Tryd.isAgg135
  z139 := Tryd.sizeOf135
  v139 := Tryd.zeroValue135
  t146 := Tryd.underlying161
  a146 := Tryd.isAgg161
  z146 := Tryd.sizeOf161
  v146 := Tryd.zeroValue161
  g1 := by kernel_rfl
  g3 := by kernel_rfl
  g4 := by kernel_rfl }
open Go.RowKit Go.Lib in
theorem strings_genSplit (s sep : ByteArray) (sv : Nat) (n : Int) (N : Nat) (m : Int) (w : World) (hs : s.size < 4294967281) (hm : w.cell? ⟨2, 0, none⟩ = some (.int .i64 m)) (h1 : 1 ≤ sep.size) (hsv : sv ≤ sep.size) (hn0 : n ≠ 0) (hn63 : n ≤ 9223372036854775807) (hN : (N : Int) = min (if n < 0 then (Lib.countB s sep : Int) + 1 else n) ((s.size : Int) + 1)) :
    Calls Tryd.prog 61 #[.string s, .string sep, .int .i64 sv, .int .i64 n] w fun e w' =>
      e = .returned (.slice (some ⟨w.heap.size, 0, none⟩) (Lib.splitB sep sv (N - 1) s).length N) ∧ w' = w.alloc (.cells (Lib.cellsOf (Lib.splitB sep sv (N - 1) s) N) 9) := Any.strings_genSplit lays221 (by kernel_rfl) s sep sv n N m w hs hm h1 hsv hn0 hn63 hN
end Go.Proofs.YtknijddlacmelaaDoor
namespace Go.Proofs.YtknijddlacmelaaDoor
set_option linter.unusedVariables false
open Go.Shelf Go.RowKit

/-- the pieces of a text -/
def pieces (s : ByteArray) : List ByteArray := (pcs [] s.data.toList).map fun l => ⟨l.toArray⟩
theorem pieces_len (s : ByteArray) : 1 ≤ (pieces s).length ∧ (pieces s).length ≤ s.size + 1 := by
  unfold pieces; rw [List.length_map, ← len_data]; exact pcs_len _ _
theorem mk_data : ∀ (xs : List ByteArray) (L : List (List UInt8)), xs.map (·.data.toList) = L → xs = L.map fun l => ⟨l.toArray⟩
  | [], L, h => by subst h; rfl
  | x :: t, L, h => by
    subst h
    rw [List.map_cons, List.map_cons, ← mk_data t _ rfl]
theorem splitB_few (s : ByteArray) (h : (pieces s).length ≤ 8) : Lib.splitB ⟨#[46]⟩ 0 (min 9 (s.size + 1) - 1) s = pieces s := by
  refine mk_data _ _ ?_
  rw [Lib.splitB_data]
  show Lib.splitK [46] 0 _ _ = _
  have hl := pieces_len s
  unfold pieces at h hl
  rw [List.length_map] at h hl
  exact (splitK_pcs _ _).1 (by omega)
theorem splitB_many (s : ByteArray) (h : 8 < (pieces s).length) : 8 < (Lib.splitB ⟨#[46]⟩ 0 (min 9 (s.size + 1) - 1) s).length := by
  have hl := pieces_len s
  unfold pieces at h hl
  rw [List.length_map] at h hl
  have e : (Lib.splitB ⟨#[46]⟩ 0 (min 9 (s.size + 1) - 1) s).length = (Lib.splitK [46] 0 (min 9 (s.size + 1) - 1) s.data.toList).length := by
    rw [← List.length_map (f := fun x : ByteArray => x.data.toList), Lib.splitB_data]
  rw [e]
  have hk : min 9 (s.size + 1) - 1 = 8 := by omega
  rw [hk]
  by_cases h9 : (pcs [] s.data.toList).length ≤ 8 + 1
  · rw [(splitK_pcs 8 _).1 h9]; exact h
  · rw [(splitK_pcs 8 _).2 (by omega)]; omega

/-- strings lie in memory, from a block's first place on -/
def HeldS (w : World) (g : Nat) (xs : List ByteArray) : Prop := ∀ (j : Nat) (x : ByteArray), xs[j]? = some x → w.cell? ⟨g, j, none⟩ = some (.string x)
set_option maxHeartbeats 1000000 in
theorem splitN_any (s : ByteArray) (w : World) (hs : s.size ≤ 4000000000) :
    Calls Tryd.prog 55 #[.string s, .string ⟨#[46]⟩, .int .i64 9] w fun e w' =>
      e = .returned (.slice (some ⟨w.heap.size, 0, none⟩) (Lib.splitB ⟨#[46]⟩ 0 (min 9 (s.size + 1) - 1) s).length (min 9 (s.size + 1))) ∧ w' = w.alloc (.cells (Lib.cellsOf (Lib.splitB ⟨#[46]⟩ 0 (min 9 (s.size + 1) - 1) s) (min 9 (s.size + 1))) 9) := by
  have hG : Calls Tryd.prog 61 #[.string s, .string ⟨#[46]⟩, .int .i64 0, .int .i64 9] w fun e w' =>
      e = .returned (.slice (some ⟨w.heap.size, 0, none⟩) (Lib.splitB ⟨#[46]⟩ 0 (min 9 (s.size + 1) - 1) s).length (min 9 (s.size + 1))) ∧ w' = w.alloc (.cells (Lib.cellsOf (Lib.splitB ⟨#[46]⟩ 0 (min 9 (s.size + 1) - 1) s) (min 9 (s.size + 1))) 9) :=
    Any.strings_genSplit_core lays221 (by kernel_rfl) s ⟨#[46]⟩ 0 9 (min 9 (s.size + 1)) w (by omega) (by decide) (by decide)
      (fun x c hx => (strings_Index_one x 46 _).mono fun e w' ⟨he, hw⟩ => ⟨by
        rw [he]
        show _ = Ending.returned (Value.int .i64 (Lib.index x.data.toList [46]))
        rw [Lib.index_one], hw⟩)
      ((strings_Count_one s 46 w).mono fun e w' ⟨he, hw⟩ => ⟨by
        rw [he]
        show _ = Ending.returned (Value.int .i64 ((Lib.count s.data.toList [46] : Nat) : Int))
        rw [Lib.count_one]; rfl, hw⟩)
      (by decide) (by decide) (by rw [if_neg (by decide)]; omega)
  go_enter Tryd.func55, Tryd.ntmps55
  go_wp2_with fail
  refine hG.mono ?_
  rintro e w1 ⟨rfl, hw⟩
  go_wp2_with fail
  go_ret
  exact ⟨rfl, rfl⟩

theorem cellsOf_get {xs : List ByteArray} {N j : Nat} {x : ByteArray} (h : xs[j]? = some x) : (Lib.cellsOf xs N)[j]? = some (.string x) := by
  have hlt := (List.getElem?_eq_some_iff.1 h).1
  unfold Lib.cellsOf
  rw [List.getElem?_toArray, List.getElem?_append_left (by simpa using hlt)]
  simp [h]
theorem setSame (w : World) (g j : Nat) (c : Array Value) (t : TypeId) (v : Value) (hg : w.heap[g]? = some (.cells c t (0, 0))) (hv : c[j]? = some v) : (w.setCell ⟨g, j, none⟩ v).heap[g]? = some (.cells c t (0, 0)) := by
  rw [setCell_eq_setRow _ _ _ _ _ _ _ hg]
  rw [setRow_heap w g c _ t _ hg]
  congr 2
  apply Array.ext_getElem?
  intro k
  rw [Array.getElem?_setIfInBounds]
  split
  · rename_i h
    subst h
    split
    · exact hv.symm
    · rename_i h2
      rw [Array.getElem?_eq_none (by omega)]
  · rfl
def isPlain (x : ByteArray) : Bool := nameOf (runes x) && !resOf x.toList
theorem alloc_heap (w : World) (o : Obj) : (w.alloc o).heap[w.heap.size]? = some o := by
  show (w.heap.push o)[w.heap.size]? = _
  simp
theorem blk_lt {w : World} {b : Nat} {o : Obj} (h : w.heap[b]? = some o) : b < w.heap.size := (Array.getElem?_eq_some_iff.1 h).1
/-- all pieces are names that aren't reserved -/
def allPlain (s : ByteArray) : Bool := (pieces s).all isPlain
theorem plain_of (x : ByteArray) : isPlain x = (nameOf (runes x) && !resOf x.toList) := rfl
theorem all_dropS {l : List ByteArray} {k : Nat} {z : ByteArray} (h : l[k]? = some z) (p : ByteArray → Bool) : (l.drop k).all p = (p z && (l.drop (k + 1)).all p) := by
  have hlt := (List.getElem?_eq_some_iff.1 h).1
  rw [List.drop_eq_getElem_cons hlt, List.all_cons, (List.getElem?_eq_some_iff.1 h).2]
theorem piece_size {s : ByteArray} {x : ByteArray} (h : x ∈ pieces s) : x.size ≤ s.size := by
  have : ∀ (l cur : List UInt8) (y : List UInt8), y ∈ pcs cur l → y.length ≤ cur.length + l.length := by
    intro l
    induction l with
    | nil => intro cur y hy; simp [pcs] at hy; subst hy; simp
    | cons b t ih =>
      intro cur y hy
      rw [pcs] at hy
      split at hy
      · rcases List.mem_cons.1 hy with rfl | hy
        · simp
        · have := ih [] y hy; simp at this ⊢; omega
      · have := ih _ y hy; simp at this ⊢; omega
  unfold pieces at h
  rw [List.mem_map] at h
  obtain ⟨y, hy, rfl⟩ := h
  have h2 := this s.data.toList [] y hy
  rw [len_data] at h2
  have : (ByteArray.mk y.toArray).size = y.length := by show y.toArray.size = _; simp
  rw [this]; simpa using h2
end Go.Proofs.YtknijddlacmelaaDoor
