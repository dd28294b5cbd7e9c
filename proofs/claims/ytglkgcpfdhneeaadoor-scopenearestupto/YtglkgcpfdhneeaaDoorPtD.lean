/-
  The walk over the library's strings.SplitN at a dot.
-/
import Derived.Test.YtglkgcpfdhneeaaDoorShD
import Derived.Test.YtglkgcpfdhneeaaDoorShP
import Derived.Test.YtglkgcpfdhneeaaDoorPcM
import Derived.Test.YtglkgcpfdhneeaaDoorDev
import Derived.Test.YtglkgcpfdhneeaaDoorStS
import Derived.Test.YtglkgcpfdhneeaaDoorDpB
import Derived.Lib.IndexBytes
import Derived.Shelf.Strings.Split
namespace Go.Proofs.YtglkgcpfdhneeaaDoor
set_option linter.unusedVariables false
open Go.Shelf Go.RowKit

/-- the pieces of a text -/
def pieces (s : ByteArray) : List ByteArray := (pcs [] s.data.toList).map fun l => ⟨l.toArray⟩
theorem pieces_len (s : ByteArray) : 1 ≤ (pieces s).length ∧ (pieces s).length ≤ s.size + 1 := by
  unfold pieces; rw [List.length_map, ← len_data]; exact pcs_len _ _
theorem mk_data : ∀ (xs : List ByteArray) (L : List (List UInt8)), xs.map (·.data.toList) = L → xs = L.map fun l => ⟨l.toArray⟩
  | [], L, h => by subst h; rfl
  | x :: t, L, h => by
    subst h
    rw [List.map_cons, List.map_cons, ← mk_data t _ rfl]
theorem splitB_few (s : ByteArray) (h : (pieces s).length ≤ 8) : Lib.splitB ⟨#[46]⟩ 0 (min 9 (s.size + 1) - 1) s = pieces s := by
  refine mk_data _ _ ?_
  rw [Lib.splitB_data]
  show Lib.splitK [46] 0 _ _ = _
  have hl := pieces_len s
  unfold pieces at h hl
  rw [List.length_map] at h hl
  exact (splitK_pcs _ _).1 (by omega)
theorem splitB_many (s : ByteArray) (h : 8 < (pieces s).length) : 8 < (Lib.splitB ⟨#[46]⟩ 0 (min 9 (s.size + 1) - 1) s).length := by
  have hl := pieces_len s
  unfold pieces at h hl
  rw [List.length_map] at h hl
  have e : (Lib.splitB ⟨#[46]⟩ 0 (min 9 (s.size + 1) - 1) s).length = (Lib.splitK [46] 0 (min 9 (s.size + 1) - 1) s.data.toList).length := by
    rw [← List.length_map (f := fun x : ByteArray => x.data.toList), Lib.splitB_data]
  rw [e]
  have hk : min 9 (s.size + 1) - 1 = 8 := by omega
  rw [hk]
  by_cases h9 : (pcs [] s.data.toList).length ≤ 8 + 1
  · rw [(splitK_pcs 8 _).1 h9]; exact h
  · rw [(splitK_pcs 8 _).2 (by omega)]; omega

/-- strings lie in memory, from a block's first place on -/
def HeldS (w : World) (g : Nat) (xs : List ByteArray) : Prop := ∀ (j : Nat) (x : ByteArray), xs[j]? = some x → w.cell? ⟨g, j, none⟩ = some (.string x)
theorem heldS_old {w w' : World} {g : Nat} {xs : List ByteArray} (h : HeldS w g xs) (hb : Below w.heap.size w w') : HeldS w' g xs := by
  intro j z hj
  have hc := h j z hj
  have hlt : g < w.heap.size := by
    by_cases hg : g < w.heap.size
    · exact hg
    · simp [World.cell?, Array.getElem?_eq_none (Nat.le_of_not_lt hg)] at hc
  rw [hb.cell hlt]; exact hc

set_option maxHeartbeats 1000000 in
theorem splitN_any (s : ByteArray) (w : World) (hs : s.size ≤ 4000000000) :
    Calls Tryd.prog 30 #[.string s, .string ⟨#[46]⟩, .int .i64 9] w fun e w' =>
      e = .returned (.slice (some ⟨w.heap.size, 0, none⟩) (Lib.splitB ⟨#[46]⟩ 0 (min 9 (s.size + 1) - 1) s).length (min 9 (s.size + 1))) ∧ w' = w.alloc (.cells (Lib.cellsOf (Lib.splitB ⟨#[46]⟩ 0 (min 9 (s.size + 1) - 1) s) (min 9 (s.size + 1))) 9) := by
  have hG : Calls Tryd.prog 43 #[.string s, .string ⟨#[46]⟩, .int .i64 0, .int .i64 9] w fun e w' =>
      e = .returned (.slice (some ⟨w.heap.size, 0, none⟩) (Lib.splitB ⟨#[46]⟩ 0 (min 9 (s.size + 1) - 1) s).length (min 9 (s.size + 1))) ∧ w' = w.alloc (.cells (Lib.cellsOf (Lib.splitB ⟨#[46]⟩ 0 (min 9 (s.size + 1) - 1) s) (min 9 (s.size + 1))) 9) :=
    Any.strings_genSplit_core lays221 (by kernel_rfl) s ⟨#[46]⟩ 0 9 (min 9 (s.size + 1)) w (by omega) (by decide) (by decide)
      (fun x c hx => (strings_Index_one x 46 _).mono fun e w' ⟨he, hw⟩ => ⟨by
        rw [he]
        show _ = Ending.returned (Value.int .i64 (Lib.index x.data.toList [46]))
        rw [Lib.index_one], hw⟩)
      ((strings_Count_one s 46 w).mono fun e w' ⟨he, hw⟩ => ⟨by
        rw [he]
        show _ = Ending.returned (Value.int .i64 ((Lib.count s.data.toList [46] : Nat) : Int))
        rw [Lib.count_one]; rfl, hw⟩)
      (by decide) (by decide) (by rw [if_neg (by decide)]; omega)
  go_enter Tryd.func30, Tryd.ntmps30
  go_wp2_with fail
  refine hG.mono ?_
  rintro e w1 ⟨rfl, hw⟩
  go_wp2_with fail
  go_ret
  exact ⟨rfl, rfl⟩

theorem cellsOf_get {xs : List ByteArray} {N j : Nat} {x : ByteArray} (h : xs[j]? = some x) : (Lib.cellsOf xs N)[j]? = some (.string x) := by
  have hlt := (List.getElem?_eq_some_iff.1 h).1
  unfold Lib.cellsOf
  rw [List.getElem?_toArray, List.getElem?_append_left (by simpa using hlt)]
  simp [h]
theorem setSame (w : World) (g j : Nat) (c : Array Value) (t : TypeId) (v : Value) (hg : w.heap[g]? = some (.cells c t (0, 0))) (hv : c[j]? = some v) : (w.setCell ⟨g, j, none⟩ v).heap[g]? = some (.cells c t (0, 0)) := by
  rw [setCell_eq_setRow _ _ _ _ _ _ _ hg]
  rw [setRow_heap w g c _ t _ hg]
  congr 2
  apply Array.ext_getElem?
  intro k
  rw [Array.getElem?_setIfInBounds]
  split
  · rename_i h
    subst h
    split
    · exact hv.symm
    · rename_i h2
      rw [Array.getElem?_eq_none (by omega)]
  · rfl
def isPlain (x : ByteArray) : Bool := nameOf (runes x) && !resOf x.toList
theorem alloc_heap (w : World) (o : Obj) : (w.alloc o).heap[w.heap.size]? = some o := by
  show (w.heap.push o)[w.heap.size]? = _
  simp
theorem blk_lt {w : World} {b : Nat} {o : Obj} (h : w.heap[b]? = some o) : b < w.heap.size := (Array.getElem?_eq_some_iff.1 h).1
/-- all pieces are names that aren't reserved -/
def allPlain (s : ByteArray) : Bool := (pieces s).all isPlain
theorem plain_of (x : ByteArray) : isPlain x = (nameOf (runes x) && !resOf x.toList) := rfl
theorem all_dropS {l : List ByteArray} {k : Nat} {z : ByteArray} (h : l[k]? = some z) (p : ByteArray → Bool) : (l.drop k).all p = (p z && (l.drop (k + 1)).all p) := by
  have hlt := (List.getElem?_eq_some_iff.1 h).1
  rw [List.drop_eq_getElem_cons hlt, List.all_cons, (List.getElem?_eq_some_iff.1 h).2]
theorem piece_size {s : ByteArray} {x : ByteArray} (h : x ∈ pieces s) : x.size ≤ s.size := by
  have : ∀ (l cur : List UInt8) (y : List UInt8), y ∈ pcs cur l → y.length ≤ cur.length + l.length := by
    intro l
    induction l with
    | nil => intro cur y hy; simp [pcs] at hy; subst hy; simp
    | cons b t ih =>
      intro cur y hy
      rw [pcs] at hy
      split at hy
      · rcases List.mem_cons.1 hy with rfl | hy
        · simp
        · have := ih [] y hy; simp at this ⊢; omega
      · have := ih _ y hy; simp at this ⊢; omega
  unfold pieces at h
  rw [List.mem_map] at h
  obtain ⟨y, hy, rfl⟩ := h
  have h2 := this s.data.toList [] y hy
  rw [len_data] at h2
  have : (ByteArray.mk y.toArray).size = y.length := by show y.toArray.size = _; simp
  rw [this]; simpa using h2
end Go.Proofs.YtglkgcpfdhneeaaDoor
