/-
  Sets: maps without elements, as the program keeps them; the walks over their add.
-/
import Derived.Test.YtgfpoglbphceaaaGreatDoorM6
import Derived.Test.YtgfpoglbphceaaaGreatDoorM7
import Derived.Test.YtgfpoglbphceaaaGreatDoorM5
import Derived.Test.YtgfpoglbphceaaaGreatDoorProg
import Derived.Test.YtgfpoglbphceaaaGreatDoorM0
import Derived.Test.YtgfpoglbphceaaaGreatDoorChecked
import Derived.Maps.OwnSet
import Derived.Deep.RegionLaw
import Derived.Deep.RegionHeldLaw
import Derived.Deep.AppendLies
import Derived.Deep.Cut
import Derived.Deep.DeepCutAuto
import Derived.Laws.AppendOwn
import Derived.OwnWalk
import Derived.Maps.AppendAt
import Derived.BigQuiet
import Derived.Deep.QuietTactic
import Derived.Lib.Hide
namespace Go.Proofs.YtgfpoglbphceaaaGreatDoor
set_option linter.unusedVariables false
open Go.RowKit Go.Maps Go.WideMaps

theorem keyedS : Keyed Tryz.prog 9 := string_keyed Tryz.underlying9
theorem keyedI : Keyed Tryz.prog 3 := int_keyed Tryz.underlying3
/-- a set that the call has made; lit: how a key reads -/
def IsSet {α : Type} (K : TypeId) (lit : α → Lit) (w : World) (b : Nat) (ks : List α) : Prop :=
  ∃ n, n ≤ ks.length ∧ w.ownsMap (H := Unit) Tryz.prog K unitElem b n (setOf (.agg []) (ks.map lit))
def litS (x : List UInt8) : Lit := .string x
def litI (x : Int) : Lit := .int .i64 x
theorem litS_key (x : List UInt8) : WideAt.IsKeyLit (litS x) := trivial
theorem litI_key (x : Int) : WideAt.IsKeyLit (litI x) := trivial
theorem litS_one (x y : List UInt8) (h : litS x = litS y) : x = y := by injection h
theorem litI_one (x y : Int) (h : litI x = litI y) : x = y := by injection h
theorem IsSet.old {α : Type} {K : TypeId} {lit : α → Lit} {w w' : World} {b : Nat} {ks : List α} (h : IsSet K lit w b ks) (hb : w'.heap[b]? = w.heap[b]?) : IsSet K lit w' b ks := by
  obtain ⟨n, hn, es, cl, h1, h2⟩ := h
  exact ⟨n, hn, es, cl, hb.trans h1, h2⟩
theorem IsSet.lt {α : Type} {K : TypeId} {lit : α → Lit} {w : World} {b : Nat} {ks : List α} (h : IsSet K lit w b ks) : b < w.heap.size := by
  obtain ⟨n, hn, es, cl, h1, h2⟩ := h
  exact (Array.getElem?_eq_some_iff.1 h1).1
theorem isSet_made {α : Type} (K : TypeId) (lit : α → Lit) {w : World} {b : Nat} (h : w.heap[b]? = some (.map #[] 0)) : IsSet K lit w b ([] : List α) :=
  ⟨0, Nat.zero_le _, #[], 0, h, ⟨by simp, MapKept.stamped_empty 0, by simp⟩, Nat.le_refl _, rfl⟩
theorem mem_any {α : Type} {lit : α → Lit} (hk : ∀ x, WideAt.IsKeyLit (lit x)) (hi : ∀ x y, lit x = lit y → x = y) [DecidableEq α] (ks : List α) (x : α) : (ks.map lit).any (fun y => y.sameKey (lit x)) = decide (x ∈ ks) := by
  rw [Bool.eq_iff_iff]
  simp only [List.any_map, List.any_eq_true, decide_eq_true_iff, Function.comp]
  constructor
  · rintro ⟨y, hy, h⟩
    have := hi _ _ ((WideAt.sameKey_iff (hk x)).1 h)
    subst this; exact hy
  · intro h
    exact ⟨x, h, (WideAt.sameKey_iff (hk x)).2 rfl⟩
/-- one key more -/
theorem set_size {α : Type} {lit : α → Lit} (hk : ∀ x, WideAt.IsKeyLit (lit x)) (hi : ∀ x y, lit x = lit y → x = y) [DecidableEq α] (ks : List α) (x : α) :
    Maps.size ((setOf (H := Unit) (.agg []) (ks.map lit)).put (lit x) (.agg [])) = Maps.size (setOf (H := Unit) (.agg []) (ks.map lit)) + (if x ∈ ks then 0 else 1) := by
  have hkk : ∀ y ∈ ks.map lit, WideAt.IsKeyLit y := by
    intro y hy
    obtain ⟨z, _, rfl⟩ := List.mem_map.1 hy
    exact hk z
  rw [size_put (tidy_setOf _ _ hkk), has_setOf _ _ _ hkk, mem_any hk hi]
  by_cases h : x ∈ ks <;> simp [h]

set_option maxHeartbeats 4000000 in
theorem addS_any (b : Nat) (ks : List (List UInt8)) (x : (List UInt8)) (w : World) (h : IsSet 9 litS w b ks) (hx : x.length ≤ 1000000000000) (hl : ks.length ≤ 1000000) :
    Calls Tryz.prog 57 #[.map (some b), .string (mkB x)] w fun e w' => e = .returned (.bool (!decide (x ∈ ks))) ∧ IsSet 9 litS w' b (ks ++ [x]) ∧ w.grownBy w' (some b) := by
  obtain ⟨n, hn, hown⟩ := h
  have HOWN := Lib.hid hown
  have hkey : keyOf Tryz.prog 9 (.string (mkB x)) = some (litS x) := by
    have := keyOf_string_mk (P := Tryz.prog) (s := mkB x) Tryz.underlying9 (by rw [mkB_size]; unfold maxLen; omega)
    simpa [litS, mkB] using this
  have hsz := set_size litS_key litS_one ks x
  obtain ⟨D, hD⟩ : ∃ D, setOf (H := Unit) (.agg []) (ks.map litS) = D := ⟨_, rfl⟩
  have hsl := hown.size_le
  rw [hD] at hown hsz HOWN hsl
  obtain ⟨B, hB⟩ : ∃ B, (!decide (x ∈ ks)) = B := ⟨_, rfl⟩
  obtain ⟨s1, hs1⟩ : ∃ s1, Maps.size D = s1 := ⟨_, rfl⟩
  obtain ⟨s2, hs2⟩ : ∃ s2, Maps.size (D.put (litS x) (.agg [])) = s2 := ⟨_, rfl⟩
  have HRES : Hid (((s1 : Nat) : Int) < ((s2 : Nat) : Int) ↔ B = true) := by
    refine (?_ : _ ↔ _)
    rw [← hB, ← hs1, ← hs2, hsz]
    by_cases hm : x ∈ ks <;> simp [hm] <;> omega
  have HD := Lib.hid hD
  have HS1 := Lib.hid hs1
  have HS2 := Lib.hid hs2
  rw [hB]
  clear hD hsz hB hs1 hs2
  go_enter Tryz.func57, Tryz.ntmps57
  go_wp2_with (first
    | (at_len; refine wpList_len_own _ rfl _ 104 rfl 9 80 Tryz.underlying104 _ b n D rfl HOWN.out ?_; rw [HS1.out])
    | (at_mapUpdate; refine wpList_mapUpdate_own _ rfl _ _ _ 104 rfl 9 80 keyedS Tryz.underlying104 _ b n D rfl HOWN.out (by unfold maxLen; omega) _ _ _ rfl rfl hkey _ [] unitElem_mk ?_; intro w1 hown1 hgr1; have HOWN1 := Lib.hid hown1; have HGR := Lib.hid hgr1; clear hown1 hgr1 HOWN HS1)
    | (at_len; refine wpList_len_own _ rfl _ 104 rfl 9 80 Tryz.underlying104 _ b (n + 1) (D.put (litS x) (.agg [])) rfl HOWN1.out ?_; rw [HS2.out]))
  have hBv : decide (s1 < s2) = B := by
    have := HRES.out
    cases B
    · simp at this ⊢; omega
    · simp at this ⊢; omega
  rw [hBv]
  go_ret
  refine ⟨rfl, ⟨n + 1, by simp; omega, ?_⟩, HGR.out⟩
  rw [List.map_append, List.map_cons, List.map_nil, setOf_snoc, HD.out]
  exact HOWN1.out
set_option maxHeartbeats 4000000 in
theorem addI_any (b : Nat) (ks : List Int) (x : Int) (w : World) (h : IsSet 3 litI w b ks) (hx : (Lit.int .i64 x).wf = true) (hl : ks.length ≤ 1000000) :
    Calls Tryz.prog 83 #[.map (some b), .int .i64 x] w fun e w' => e = .returned (.bool (!decide (x ∈ ks))) ∧ IsSet 3 litI w' b (ks ++ [x]) ∧ w.grownBy w' (some b) := by
  obtain ⟨n, hn, hown⟩ := h
  have HOWN := Lib.hid hown
  have hkey : keyOf Tryz.prog 3 (.int .i64 x) = some (litI x) := keyOf_int_mk Tryz.underlying3 hx
  have hsz := set_size litI_key litI_one ks x
  obtain ⟨D, hD⟩ : ∃ D, setOf (H := Unit) (.agg []) (ks.map litI) = D := ⟨_, rfl⟩
  have hsl := hown.size_le
  rw [hD] at hown hsz HOWN hsl
  obtain ⟨B, hB⟩ : ∃ B, (!decide (x ∈ ks)) = B := ⟨_, rfl⟩
  obtain ⟨s1, hs1⟩ : ∃ s1, Maps.size D = s1 := ⟨_, rfl⟩
  obtain ⟨s2, hs2⟩ : ∃ s2, Maps.size (D.put (litI x) (.agg [])) = s2 := ⟨_, rfl⟩
  have HRES : Hid (((s1 : Nat) : Int) < ((s2 : Nat) : Int) ↔ B = true) := by
    refine (?_ : _ ↔ _)
    rw [← hB, ← hs1, ← hs2, hsz]
    by_cases hm : x ∈ ks <;> simp [hm] <;> omega
  have HD := Lib.hid hD
  have HS1 := Lib.hid hs1
  have HS2 := Lib.hid hs2
  rw [hB]
  clear hD hsz hB hs1 hs2
  go_enter Tryz.func83, Tryz.ntmps83
  go_wp2_with (first
    | (at_len; refine wpList_len_own _ rfl _ 122 rfl 3 80 Tryz.underlying122 _ b n D rfl HOWN.out ?_; rw [HS1.out])
    | (at_mapUpdate; refine wpList_mapUpdate_own _ rfl _ _ _ 122 rfl 3 80 keyedI Tryz.underlying122 _ b n D rfl HOWN.out (by unfold maxLen; omega) _ _ _ rfl rfl hkey _ [] unitElem_mk ?_; intro w1 hown1 hgr1; have HOWN1 := Lib.hid hown1; have HGR := Lib.hid hgr1; clear hown1 hgr1 HOWN HS1)
    | (at_len; refine wpList_len_own _ rfl _ 122 rfl 3 80 Tryz.underlying122 _ b (n + 1) (D.put (litI x) (.agg [])) rfl HOWN1.out ?_; rw [HS2.out]))
  have hBv : decide (s1 < s2) = B := by
    have := HRES.out
    cases B
    · simp at this ⊢; omega
    · simp at this ⊢; omega
  rw [hBv]
  go_ret
  refine ⟨rfl, ⟨n + 1, by simp; omega, ?_⟩, HGR.out⟩
  rw [List.map_append, List.map_cons, List.map_nil, setOf_snoc, HD.out]
  exact HOWN1.out
end Go.Proofs.YtgfpoglbphceaaaGreatDoor
