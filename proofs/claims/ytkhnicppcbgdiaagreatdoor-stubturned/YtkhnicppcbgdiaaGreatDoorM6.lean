/-
  The walk over the library's strings.SplitN at a dot.
  Sets: maps without elements, as the program keeps them; the walks over their add.
-/
import Derived.Test.YtkhnicppcbgdiaaGreatDoorM4
import Derived.Test.YtkhnicppcbgdiaaGreatDoorM5
import Derived.Test.YtkhnicppcbgdiaaGreatDoorM2
import Derived.Lib.IndexBytes
import Derived.Shelf.Strings.Split
import Derived.Test.YtkhnicppcbgdiaaGreatDoorProg
import Derived.Test.YtkhnicppcbgdiaaGreatDoorM0
import Derived.Test.YtkhnicppcbgdiaaGreatDoorChecked
import Derived.Maps.OwnSet
import Derived.Deep.RegionLaw
import Derived.Deep.RegionHeldLaw
import Derived.Deep.AppendLies
import Derived.Deep.Cut
import Derived.Deep.DeepCutAuto
import Derived.Laws.AppendOwn
import Derived.OwnWalk
import Derived.Maps.AppendAt
import Derived.BigQuiet
import Derived.Deep.QuietTactic
import Derived.Lib.Hide
namespace Go.Proofs.YtkhnicppcbgdiaaGreatDoor
set_option linter.unusedVariables false
open Go.Shelf Go.RowKit

/-- the pieces of a text -/
def pieces (s : ByteArray) : List ByteArray := (pcs [] s.data.toList).map fun l => ⟨l.toArray⟩
theorem pieces_len (s : ByteArray) : 1 ≤ (pieces s).length ∧ (pieces s).length ≤ s.size + 1 := by
  unfold pieces; rw [List.length_map, ← len_data]; exact pcs_len _ _
theorem mk_data : ∀ (xs : List ByteArray) (L : List (List UInt8)), xs.map (·.data.toList) = L → xs = L.map fun l => ⟨l.toArray⟩
  | [], L, h => by subst h; rfl
  | x :: t, L, h => by
    subst h
    rw [List.map_cons, List.map_cons, ← mk_data t _ rfl]
theorem splitB_few (s : ByteArray) (h : (pieces s).length ≤ 8) : Lib.splitB ⟨#[46]⟩ 0 (min 9 (s.size + 1) - 1) s = pieces s := by
  refine mk_data _ _ ?_
  rw [Lib.splitB_data]
  show Lib.splitK [46] 0 _ _ = _
  have hl := pieces_len s
  unfold pieces at h hl
  rw [List.length_map] at h hl
  exact (splitK_pcs _ _).1 (by omega)
theorem splitB_many (s : ByteArray) (h : 8 < (pieces s).length) : 8 < (Lib.splitB ⟨#[46]⟩ 0 (min 9 (s.size + 1) - 1) s).length := by
  have hl := pieces_len s
  unfold pieces at h hl
  rw [List.length_map] at h hl
  have e : (Lib.splitB ⟨#[46]⟩ 0 (min 9 (s.size + 1) - 1) s).length = (Lib.splitK [46] 0 (min 9 (s.size + 1) - 1) s.data.toList).length := by
    rw [← List.length_map (f := fun x : ByteArray => x.data.toList), Lib.splitB_data]
  rw [e]
  have hk : min 9 (s.size + 1) - 1 = 8 := by omega
  rw [hk]
  by_cases h9 : (pcs [] s.data.toList).length ≤ 8 + 1
  · rw [(splitK_pcs 8 _).1 h9]; exact h
  · rw [(splitK_pcs 8 _).2 (by omega)]; omega

/-- strings lie in memory, from a block's first place on -/
def HeldS (w : World) (g : Nat) (xs : List ByteArray) : Prop := ∀ (j : Nat) (x : ByteArray), xs[j]? = some x → w.cell? ⟨g, j, none⟩ = some (.string x)
set_option maxHeartbeats 1000000 in
theorem splitN_any (s : ByteArray) (w : World) (hs : s.size ≤ 4000000000) :
    Calls Tryz.prog 95 #[.string s, .string ⟨#[46]⟩, .int .i64 9] w fun e w' =>
      e = .returned (.slice (some ⟨w.heap.size, 0, none⟩) (Lib.splitB ⟨#[46]⟩ 0 (min 9 (s.size + 1) - 1) s).length (min 9 (s.size + 1))) ∧ w' = w.alloc (.cells (Lib.cellsOf (Lib.splitB ⟨#[46]⟩ 0 (min 9 (s.size + 1) - 1) s) (min 9 (s.size + 1))) 9) := by
  have hG : Calls Tryz.prog 111 #[.string s, .string ⟨#[46]⟩, .int .i64 0, .int .i64 9] w fun e w' =>
      e = .returned (.slice (some ⟨w.heap.size, 0, none⟩) (Lib.splitB ⟨#[46]⟩ 0 (min 9 (s.size + 1) - 1) s).length (min 9 (s.size + 1))) ∧ w' = w.alloc (.cells (Lib.cellsOf (Lib.splitB ⟨#[46]⟩ 0 (min 9 (s.size + 1) - 1) s) (min 9 (s.size + 1))) 9) :=
    Any.strings_genSplit_core lays221 (by kernel_rfl) s ⟨#[46]⟩ 0 9 (min 9 (s.size + 1)) w (by omega) (by decide) (by decide)
      (fun x c hx => (strings_Index_one x 46 _).mono fun e w' ⟨he, hw⟩ => ⟨by
        rw [he]
        show _ = Ending.returned (Value.int .i64 (Lib.index x.data.toList [46]))
        rw [Lib.index_one], hw⟩)
      ((strings_Count_one s 46 w).mono fun e w' ⟨he, hw⟩ => ⟨by
        rw [he]
        show _ = Ending.returned (Value.int .i64 ((Lib.count s.data.toList [46] : Nat) : Int))
        rw [Lib.count_one]; rfl, hw⟩)
      (by decide) (by decide) (by rw [if_neg (by decide)]; omega)
  go_enter Tryz.func95, Tryz.ntmps95
  go_wp2_with fail
  refine hG.mono ?_
  rintro e w1 ⟨rfl, hw⟩
  go_wp2_with fail
  go_ret
  exact ⟨rfl, rfl⟩

theorem cellsOf_get {xs : List ByteArray} {N j : Nat} {x : ByteArray} (h : xs[j]? = some x) : (Lib.cellsOf xs N)[j]? = some (.string x) := by
  have hlt := (List.getElem?_eq_some_iff.1 h).1
  unfold Lib.cellsOf
  rw [List.getElem?_toArray, List.getElem?_append_left (by simpa using hlt)]
  simp [h]
theorem setSame (w : World) (g j : Nat) (c : Array Value) (t : TypeId) (v : Value) (hg : w.heap[g]? = some (.cells c t (0, 0))) (hv : c[j]? = some v) : (w.setCell ⟨g, j, none⟩ v).heap[g]? = some (.cells c t (0, 0)) := by
  rw [setCell_eq_setRow _ _ _ _ _ _ _ hg]
  rw [setRow_heap w g c _ t _ hg]
  congr 2
  apply Array.ext_getElem?
  intro k
  rw [Array.getElem?_setIfInBounds]
  split
  · rename_i h
    subst h
    split
    · exact hv.symm
    · rename_i h2
      rw [Array.getElem?_eq_none (by omega)]
  · rfl
def isPlain (x : ByteArray) : Bool := nameOf (runes x) && !resOf x.toList
theorem alloc_heap (w : World) (o : Obj) : (w.alloc o).heap[w.heap.size]? = some o := by
  show (w.heap.push o)[w.heap.size]? = _
  simp
theorem blk_lt {w : World} {b : Nat} {o : Obj} (h : w.heap[b]? = some o) : b < w.heap.size := (Array.getElem?_eq_some_iff.1 h).1
/-- all pieces are names that aren't reserved -/
def allPlain (s : ByteArray) : Bool := (pieces s).all isPlain
theorem plain_of (x : ByteArray) : isPlain x = (nameOf (runes x) && !resOf x.toList) := rfl
theorem all_dropS {l : List ByteArray} {k : Nat} {z : ByteArray} (h : l[k]? = some z) (p : ByteArray → Bool) : (l.drop k).all p = (p z && (l.drop (k + 1)).all p) := by
  have hlt := (List.getElem?_eq_some_iff.1 h).1
  rw [List.drop_eq_getElem_cons hlt, List.all_cons, (List.getElem?_eq_some_iff.1 h).2]
theorem piece_size {s : ByteArray} {x : ByteArray} (h : x ∈ pieces s) : x.size ≤ s.size := by
  have : ∀ (l cur : List UInt8) (y : List UInt8), y ∈ pcs cur l → y.length ≤ cur.length + l.length := by
    intro l
    induction l with
    | nil => intro cur y hy; simp [pcs] at hy; subst hy; simp
    | cons b t ih =>
      intro cur y hy
      rw [pcs] at hy
      split at hy
      · rcases List.mem_cons.1 hy with rfl | hy
        · simp
        · have := ih [] y hy; simp at this ⊢; omega
      · have := ih _ y hy; simp at this ⊢; omega
  unfold pieces at h
  rw [List.mem_map] at h
  obtain ⟨y, hy, rfl⟩ := h
  have h2 := this s.data.toList [] y hy
  rw [len_data] at h2
  have : (ByteArray.mk y.toArray).size = y.length := by show y.toArray.size = _; simp
  rw [this]; simpa using h2
end Go.Proofs.YtkhnicppcbgdiaaGreatDoor
namespace Go.Proofs.YtkhnicppcbgdiaaGreatDoor
set_option linter.unusedVariables false
open Go.RowKit Go.Maps Go.WideMaps

theorem keyedS : Keyed Tryz.prog 9 := string_keyed Tryz.underlying9
theorem keyedI : Keyed Tryz.prog 3 := int_keyed Tryz.underlying3
/-- a set that the call has made; lit: how a key reads -/
def IsSet {α : Type} (K : TypeId) (lit : α → Lit) (w : World) (b : Nat) (ks : List α) : Prop :=
  ∃ n, n ≤ ks.length ∧ w.ownsMap (H := Unit) Tryz.prog K unitElem b n (setOf (.agg []) (ks.map lit))
def litS (x : List UInt8) : Lit := .string x
def litI (x : Int) : Lit := .int .i64 x
theorem litS_key (x : List UInt8) : WideAt.IsKeyLit (litS x) := trivial
theorem litI_key (x : Int) : WideAt.IsKeyLit (litI x) := trivial
theorem litS_one (x y : List UInt8) (h : litS x = litS y) : x = y := by injection h
theorem litI_one (x y : Int) (h : litI x = litI y) : x = y := by injection h
theorem IsSet.old {α : Type} {K : TypeId} {lit : α → Lit} {w w' : World} {b : Nat} {ks : List α} (h : IsSet K lit w b ks) (hb : w'.heap[b]? = w.heap[b]?) : IsSet K lit w' b ks := by
  obtain ⟨n, hn, es, cl, h1, h2⟩ := h
  exact ⟨n, hn, es, cl, hb.trans h1, h2⟩
theorem IsSet.lt {α : Type} {K : TypeId} {lit : α → Lit} {w : World} {b : Nat} {ks : List α} (h : IsSet K lit w b ks) : b < w.heap.size := by
  obtain ⟨n, hn, es, cl, h1, h2⟩ := h
  exact (Array.getElem?_eq_some_iff.1 h1).1
theorem isSet_made {α : Type} (K : TypeId) (lit : α → Lit) {w : World} {b : Nat} (h : w.heap[b]? = some (.map #[] 0)) : IsSet K lit w b ([] : List α) :=
  ⟨0, Nat.zero_le _, #[], 0, h, ⟨by simp, MapKept.stamped_empty 0, by simp⟩, Nat.le_refl _, rfl⟩
theorem mem_any {α : Type} {lit : α → Lit} (hk : ∀ x, WideAt.IsKeyLit (lit x)) (hi : ∀ x y, lit x = lit y → x = y) [DecidableEq α] (ks : List α) (x : α) : (ks.map lit).any (fun y => y.sameKey (lit x)) = decide (x ∈ ks) := by
  rw [Bool.eq_iff_iff]
  simp only [List.any_map, List.any_eq_true, decide_eq_true_iff, Function.comp]
  constructor
  · rintro ⟨y, hy, h⟩
    have := hi _ _ ((WideAt.sameKey_iff (hk x)).1 h)
    subst this; exact hy
  · intro h
    exact ⟨x, h, (WideAt.sameKey_iff (hk x)).2 rfl⟩
/-- one key more -/
theorem set_size {α : Type} {lit : α → Lit} (hk : ∀ x, WideAt.IsKeyLit (lit x)) (hi : ∀ x y, lit x = lit y → x = y) [DecidableEq α] (ks : List α) (x : α) :
    Maps.size ((setOf (H := Unit) (.agg []) (ks.map lit)).put (lit x) (.agg [])) = Maps.size (setOf (H := Unit) (.agg []) (ks.map lit)) + (if x ∈ ks then 0 else 1) := by
  have hkk : ∀ y ∈ ks.map lit, WideAt.IsKeyLit y := by
    intro y hy
    obtain ⟨z, _, rfl⟩ := List.mem_map.1 hy
    exact hk z
  rw [size_put (tidy_setOf _ _ hkk), has_setOf _ _ _ hkk, mem_any hk hi]
  by_cases h : x ∈ ks <;> simp [h]

set_option maxHeartbeats 4000000 in
theorem addS_any (b : Nat) (ks : List (List UInt8)) (x : (List UInt8)) (w : World) (h : IsSet 9 litS w b ks) (hx : x.length ≤ 1000000000000) (hl : ks.length ≤ 1000000) :
    Calls Tryz.prog 51 #[.map (some b), .string (mkB x)] w fun e w' => e = .returned (.bool (!decide (x ∈ ks))) ∧ IsSet 9 litS w' b (ks ++ [x]) ∧ w.grownBy w' (some b) := by
  obtain ⟨n, hn, hown⟩ := h
  have HOWN := Lib.hid hown
  have hkey : keyOf Tryz.prog 9 (.string (mkB x)) = some (litS x) := by
    have := keyOf_string_mk (P := Tryz.prog) (s := mkB x) Tryz.underlying9 (by rw [mkB_size]; unfold maxLen; omega)
    simpa [litS, mkB] using this
  have hsz := set_size litS_key litS_one ks x
  obtain ⟨D, hD⟩ : ∃ D, setOf (H := Unit) (.agg []) (ks.map litS) = D := ⟨_, rfl⟩
  have hsl := hown.size_le
  rw [hD] at hown hsz HOWN hsl
  obtain ⟨B, hB⟩ : ∃ B, (!decide (x ∈ ks)) = B := ⟨_, rfl⟩
  obtain ⟨s1, hs1⟩ : ∃ s1, Maps.size D = s1 := ⟨_, rfl⟩
  obtain ⟨s2, hs2⟩ : ∃ s2, Maps.size (D.put (litS x) (.agg [])) = s2 := ⟨_, rfl⟩
  have HRES : Hid (((s1 : Nat) : Int) < ((s2 : Nat) : Int) ↔ B = true) := by
    refine (?_ : _ ↔ _)
    rw [← hB, ← hs1, ← hs2, hsz]
    by_cases hm : x ∈ ks <;> simp [hm] <;> omega
  have HD := Lib.hid hD
  have HS1 := Lib.hid hs1
  have HS2 := Lib.hid hs2
  rw [hB]
  clear hD hsz hB hs1 hs2
  go_enter Tryz.func51, Tryz.ntmps51
  go_wp2_with (first
    | (at_len; refine wpList_len_own _ rfl _ 101 rfl 9 73 Tryz.underlying101 _ b n D rfl HOWN.out ?_; rw [HS1.out])
    | (at_mapUpdate; refine wpList_mapUpdate_own _ rfl _ _ _ 101 rfl 9 73 keyedS Tryz.underlying101 _ b n D rfl HOWN.out (by unfold maxLen; omega) _ _ _ rfl rfl hkey _ [] unitElem_mk ?_; intro w1 hown1 hgr1; have HOWN1 := Lib.hid hown1; have HGR := Lib.hid hgr1; clear hown1 hgr1 HOWN HS1)
    | (at_len; refine wpList_len_own _ rfl _ 101 rfl 9 73 Tryz.underlying101 _ b (n + 1) (D.put (litS x) (.agg [])) rfl HOWN1.out ?_; rw [HS2.out]))
  have hBv : decide (s1 < s2) = B := by
    have := HRES.out
    cases B
    · simp at this ⊢; omega
    · simp at this ⊢; omega
  rw [hBv]
  go_ret
  refine ⟨rfl, ⟨n + 1, by simp; omega, ?_⟩, HGR.out⟩
  rw [List.map_append, List.map_cons, List.map_nil, setOf_snoc, HD.out]
  exact HOWN1.out
set_option maxHeartbeats 4000000 in
theorem addI_any (b : Nat) (ks : List Int) (x : Int) (w : World) (h : IsSet 3 litI w b ks) (hx : (Lit.int .i64 x).wf = true) (hl : ks.length ≤ 1000000) :
    Calls Tryz.prog 80 #[.map (some b), .int .i64 x] w fun e w' => e = .returned (.bool (!decide (x ∈ ks))) ∧ IsSet 3 litI w' b (ks ++ [x]) ∧ w.grownBy w' (some b) := by
  obtain ⟨n, hn, hown⟩ := h
  have HOWN := Lib.hid hown
  have hkey : keyOf Tryz.prog 3 (.int .i64 x) = some (litI x) := keyOf_int_mk Tryz.underlying3 hx
  have hsz := set_size litI_key litI_one ks x
  obtain ⟨D, hD⟩ : ∃ D, setOf (H := Unit) (.agg []) (ks.map litI) = D := ⟨_, rfl⟩
  have hsl := hown.size_le
  rw [hD] at hown hsz HOWN hsl
  obtain ⟨B, hB⟩ : ∃ B, (!decide (x ∈ ks)) = B := ⟨_, rfl⟩
  obtain ⟨s1, hs1⟩ : ∃ s1, Maps.size D = s1 := ⟨_, rfl⟩
  obtain ⟨s2, hs2⟩ : ∃ s2, Maps.size (D.put (litI x) (.agg [])) = s2 := ⟨_, rfl⟩
  have HRES : Hid (((s1 : Nat) : Int) < ((s2 : Nat) : Int) ↔ B = true) := by
    refine (?_ : _ ↔ _)
    rw [← hB, ← hs1, ← hs2, hsz]
    by_cases hm : x ∈ ks <;> simp [hm] <;> omega
  have HD := Lib.hid hD
  have HS1 := Lib.hid hs1
  have HS2 := Lib.hid hs2
  rw [hB]
  clear hD hsz hB hs1 hs2
  go_enter Tryz.func80, Tryz.ntmps80
  go_wp2_with (first
    | (at_len; refine wpList_len_own _ rfl _ 121 rfl 3 73 Tryz.underlying121 _ b n D rfl HOWN.out ?_; rw [HS1.out])
    | (at_mapUpdate; refine wpList_mapUpdate_own _ rfl _ _ _ 121 rfl 3 73 keyedI Tryz.underlying121 _ b n D rfl HOWN.out (by unfold maxLen; omega) _ _ _ rfl rfl hkey _ [] unitElem_mk ?_; intro w1 hown1 hgr1; have HOWN1 := Lib.hid hown1; have HGR := Lib.hid hgr1; clear hown1 hgr1 HOWN HS1)
    | (at_len; refine wpList_len_own _ rfl _ 121 rfl 3 73 Tryz.underlying121 _ b (n + 1) (D.put (litI x) (.agg [])) rfl HOWN1.out ?_; rw [HS2.out]))
  have hBv : decide (s1 < s2) = B := by
    have := HRES.out
    cases B
    · simp at this ⊢; omega
    · simp at this ⊢; omega
  rw [hBv]
  go_ret
  refine ⟨rfl, ⟨n + 1, by simp; omega, ?_⟩, HGR.out⟩
  rw [List.map_append, List.map_cons, List.map_nil, setOf_snoc, HD.out]
  exact HOWN1.out
end Go.Proofs.YtkhnicppcbgdiaaGreatDoor
