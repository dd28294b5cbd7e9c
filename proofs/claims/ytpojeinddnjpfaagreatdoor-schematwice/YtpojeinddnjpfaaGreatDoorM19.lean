/-
  Declarations with their whole names, in memory. Nothing is proved of the program here.
  Sets: maps without elements, as the program keeps them; the walks over their add.
  Schemas in memory; rows that grow. Nothing is proved of the program here.
  The walk over the law's own Ours: the same declarations.
-/
import Derived.Test.YtpojeinddnjpfaaGreatDoorM17
import Derived.Test.YtpojeinddnjpfaaGreatDoorM18
import Derived.Test.YtpojeinddnjpfaaGreatDoorChecked
import Derived.Maps.OwnSet
import Derived.Deep.AppendLies
import Derived.Deep.Cut
import Derived.Deep.DeepCutAuto
namespace Go.Proofs.YtpojeinddnjpfaaGreatDoor
set_option linter.unusedVariables false
open Go.RowKit

def HeldP (k f : Nat) (w : World) (S : Nat → Prop) (v : Value) (ps : List Pl) : Prop :=
 ∃ ad c, v = .slice ad ps.length c ∧ ps.length ≤ c ∧ (ps = [] ∨ ∃ g o, ad = some ⟨g, o, none⟩ ∧ S g ∧ ∀ (j : Nat) (x : Pl), ps[j]? = some x →
   ∃ fs vs ms ins, (∀ (i : Nat) (u : Value), (drow x.2 fs vs ms ins ++ [.string (mkB x.1)])[i]? = some u → w.cell? ⟨g, o + (j * k + i), none⟩ = some u) ∧ Kids f w S fs vs ms ins x.2)
theorem HeldP.old {k f : Nat} {w w' : World} {S : Nat → Prop} {v : Value} {ps : List Pl} (h : HeldP k f w S v ps) (hb : ∀ b, S b → w'.heap[b]? = w.heap[b]?) : HeldP k f w' S v ps := by
 obtain ⟨ad, c, hv, hc, h⟩ := h
 refine ⟨ad, c, hv, hc, h.imp id ?_⟩
 rintro ⟨g, o, ha, hg, h⟩
 refine ⟨g, o, ha, hg, fun j d hj => ?_⟩
 obtain ⟨fs, vs, ms, ins, h0, h1⟩ := h j d hj
 exact ⟨fs, vs, ms, ins, fun i u hu => by rw [World.cell?_of_block (hb g hg)]; exact h0 i u hu, h1.old hb⟩
theorem HeldP.more {k f : Nat} {w : World} {S S' : Nat → Prop} {v : Value} {ps : List Pl} (h : HeldP k f w S v ps) (hb : ∀ b, S b → S' b) : HeldP k f w S' v ps := by
 obtain ⟨ad, c, hv, hc, h⟩ := h
 refine ⟨ad, c, hv, hc, h.imp id ?_⟩
 rintro ⟨g, o, ha, hg, h⟩
 refine ⟨g, o, ha, hb g hg, fun j d hj => ?_⟩
 obtain ⟨fs, vs, ms, ins, h0, h1⟩ := h j d hj
 exact ⟨fs, vs, ms, ins, h0, h1.more hb⟩
theorem HeldP.isSl {k f : Nat} {w : World} {S : Nat → Prop} {v : Value} {ps : List Pl} (h : HeldP k f w S v ps) : ∃ ad c, v = .slice ad ps.length c := by
 obtain ⟨ad, c, hv, _⟩ := h
 exact ⟨ad, c, hv⟩
theorem place_at {k f : Nat} {w W : World} {S : Nat → Prop} {v : Value} {ps : List Pl} (h : HeldP k f w S v ps) (hW : ∀ b, S b → W.heap[b]? = w.heap[b]?) {q : Nat} {x : Pl} (hx : ps[q]? = some x) :
  ∃ g o c fa fc va vc ma mc ia ic, v = .slice (some ⟨g, o, none⟩) ps.length c ∧ S g ∧ W.cell? ⟨g, o + q * k, none⟩ = some (.int .i64 x.2.kind) ∧ W.cell? ⟨g, o + q * k + 1, none⟩ = some (.string (mkB x.2.name)) ∧
   W.cell? ⟨g, o + q * k + 2, none⟩ = some (.int .i64 x.2.line) ∧ W.cell? ⟨g, o + q * k + 3, none⟩ = some (.int .i64 x.2.col) ∧ W.cell? ⟨g, o + q * k + 4, none⟩ = some (.slice fa x.2.fields.length fc) ∧
   W.cell? ⟨g, o + q * k + 5, none⟩ = some (.slice va x.2.values.length vc) ∧ W.cell? ⟨g, o + q * k + 6, none⟩ = some (.slice ma x.2.methods.length mc) ∧ W.cell? ⟨g, o + q * k + 7, none⟩ = some (.slice ia x.2.inner.length ic) ∧
   W.cell? ⟨g, o + q * k + 8, none⟩ = some (.string (mkB x.1)) ∧
   Kids f W S (.slice fa x.2.fields.length fc) (.slice va x.2.values.length vc) (.slice ma x.2.methods.length mc) (.slice ia x.2.inner.length ic) x.2 := by
 obtain ⟨ad, c, hsl, hcc, hrows⟩ := h
 rcases hrows with h0 | ⟨g, o, had, hg, hrow⟩
 ·rw [h0] at hx; simp at hx
 subst had
 obtain ⟨fs, vs, ms, ins, hcell, kd⟩ := hrow q x hx
 have kd0 := kd
 obtain ⟨r1, r2, r3, r4⟩ := kd0
 obtain ⟨fa, fc, rfl⟩ := r1.isSl
 obtain ⟨va, vc, rfl⟩ := r2.isSl
 obtain ⟨ma, mc, rfl⟩ := r3.isSl
 obtain ⟨ia, ic, rfl⟩ := r4.isSlD
 have hb := hW g hg
 have hc : ∀ i u, (drow x.2 (.slice fa x.2.fields.length fc) (.slice va x.2.values.length vc) (.slice ma x.2.methods.length mc) (.slice ia x.2.inner.length ic) ++ [.string (mkB x.1)])[i]? = some u → W.cell? ⟨g, o + (q * k + i), none⟩ = some u := fun i u hu => by
  rw [World.cell?_of_block hb]; exact hcell i u hu
 refine ⟨g, o, c, fa, fc, va, vc, ma, mc, ia, ic, hsl, hg, ?_, ?_, ?_, ?_, ?_, ?_, ?_, ?_, ?_, kd.old hW⟩
 ·have := hc 0 _ rfl; simpa [Nat.add_assoc] using this
 ·have := hc 1 _ rfl; simpa [Nat.add_assoc] using this
 ·have := hc 2 _ rfl; simpa [Nat.add_assoc] using this
 ·have := hc 3 _ rfl; simpa [Nat.add_assoc] using this
 ·have := hc 4 _ rfl; simpa [Nat.add_assoc] using this
 ·have := hc 5 _ rfl; simpa [Nat.add_assoc] using this
 ·have := hc 6 _ rfl; simpa [Nat.add_assoc] using this
 ·have := hc 7 _ rfl; simpa [Nat.add_assoc] using this
 ·have := hc 8 _ rfl; simpa [Nat.add_assoc] using this
theorem field_at {w W : World} {S : Nat → Prop} {v : Value} {xs : List Fd} (h : RowsIn w S 6 frow v xs) (hW : ∀ b, S b → W.heap[b]? = w.heap[b]?) {q : Nat} {x : Fd} (hx : xs[q]? = some x) :
  ∃ g o c, v = .slice (some ⟨g, o, none⟩) xs.length c ∧ S g ∧ W.cell? ⟨g, o + q * 6, none⟩ = some (.bool x.rep) ∧ W.cell? ⟨g, o + q * 6 + 1, none⟩ = some (.string (mkB x.type)) ∧ W.cell? ⟨g, o + q * 6 + 2, none⟩ = some (.string (mkB x.name)) ∧
   W.cell? ⟨g, o + q * 6 + 3, none⟩ = some (.int .i64 x.num) ∧ W.cell? ⟨g, o + q * 6 + 4, none⟩ = some (.int .i64 x.line) ∧ W.cell? ⟨g, o + q * 6 + 5, none⟩ = some (.int .i64 x.col) := by
 obtain ⟨ad, c, hsl, hcc, hrows⟩ := h
 rcases hrows with h0 | ⟨g, o, had, hg, hrow⟩
 ·rw [h0] at hx; simp at hx
 subst had
 have hb := hW g hg
 have hc : ∀ i u, (frow x)[i]? = some u → W.cell? ⟨g, o + (q * 6 + i), none⟩ = some u := fun i u hu => by
  rw [World.cell?_of_block hb]; exact hrow q x hx i u hu
 refine ⟨g, o, c, hsl, hg, ?_, ?_, ?_, ?_, ?_, ?_⟩
 ·have := hc 0 _ rfl; simpa [Nat.add_assoc] using this
 ·have := hc 1 _ rfl; simpa [Nat.add_assoc] using this
 ·have := hc 2 _ rfl; simpa [Nat.add_assoc] using this
 ·have := hc 3 _ rfl; simpa [Nat.add_assoc] using this
 ·have := hc 4 _ rfl; simpa [Nat.add_assoc] using this
 ·have := hc 5 _ rfl; simpa [Nat.add_assoc] using this
theorem value_at {w W : World} {S : Nat → Prop} {v : Value} {xs : List Vl} (h : RowsIn w S 4 vrow v xs) (hW : ∀ b, S b → W.heap[b]? = w.heap[b]?) {q : Nat} {x : Vl} (hx : xs[q]? = some x) :
  ∃ g o c, v = .slice (some ⟨g, o, none⟩) xs.length c ∧ S g ∧ W.cell? ⟨g, o + q * 4, none⟩ = some (.string (mkB x.name)) ∧
   W.cell? ⟨g, o + q * 4 + 1, none⟩ = some (.int .i64 x.num) ∧ W.cell? ⟨g, o + q * 4 + 2, none⟩ = some (.int .i64 x.line) ∧ W.cell? ⟨g, o + q * 4 + 3, none⟩ = some (.int .i64 x.col) := by
 obtain ⟨ad, c, hsl, hcc, hrows⟩ := h
 rcases hrows with h0 | ⟨g, o, had, hg, hrow⟩
 ·rw [h0] at hx; simp at hx
 subst had
 have hb := hW g hg
 have hc : ∀ i u, (vrow x)[i]? = some u → W.cell? ⟨g, o + (q * 4 + i), none⟩ = some u := fun i u hu => by
  rw [World.cell?_of_block hb]; exact hrow q x hx i u hu
 refine ⟨g, o, c, hsl, hg, ?_, ?_, ?_, ?_⟩
 ·have := hc 0 _ rfl; simpa [Nat.add_assoc] using this
 ·have := hc 1 _ rfl; simpa [Nat.add_assoc] using this
 ·have := hc 2 _ rfl; simpa [Nat.add_assoc] using this
 ·have := hc 3 _ rfl; simpa [Nat.add_assoc] using this
theorem meth_at {w W : World} {S : Nat → Prop} {v : Value} {xs : List Mt} (h : RowsIn w S 5 mrow v xs) (hW : ∀ b, S b → W.heap[b]? = w.heap[b]?) {q : Nat} {x : Mt} (hx : xs[q]? = some x) :
  ∃ g o c, v = .slice (some ⟨g, o, none⟩) xs.length c ∧ S g ∧ W.cell? ⟨g, o + q * 5, none⟩ = some (.string (mkB x.name)) ∧ W.cell? ⟨g, o + q * 5 + 1, none⟩ = some (.string (mkB x.inp)) ∧ W.cell? ⟨g, o + q * 5 + 2, none⟩ = some (.string (mkB x.out)) ∧
   W.cell? ⟨g, o + q * 5 + 3, none⟩ = some (.int .i64 x.line) ∧ W.cell? ⟨g, o + q * 5 + 4, none⟩ = some (.int .i64 x.col) := by
 obtain ⟨ad, c, hsl, hcc, hrows⟩ := h
 rcases hrows with h0 | ⟨g, o, had, hg, hrow⟩
 ·rw [h0] at hx; simp at hx
 subst had
 have hb := hW g hg
 have hc : ∀ i u, (mrow x)[i]? = some u → W.cell? ⟨g, o + (q * 5 + i), none⟩ = some u := fun i u hu => by
  rw [World.cell?_of_block hb]; exact hrow q x hx i u hu
 refine ⟨g, o, c, hsl, hg, ?_, ?_, ?_, ?_, ?_⟩
 ·have := hc 0 _ rfl; simpa [Nat.add_assoc] using this
 ·have := hc 1 _ rfl; simpa [Nat.add_assoc] using this
 ·have := hc 2 _ rfl; simpa [Nat.add_assoc] using this
 ·have := hc 3 _ rfl; simpa [Nat.add_assoc] using this
 ·have := hc 4 _ rfl; simpa [Nat.add_assoc] using this
def RAns (o : Option (Int × Int)) (l c : Int) (b : Bool) : Prop := (o = none ∧ b = false ∧ l = 0 ∧ c = 0) ∨ (b = true ∧ o = some (l, c))
def RndAns (w : World) (o : Option (Int × Int)) (e : Ending) (w' : World) : Prop := ∃ l c b, e = .returned (.tuple #[.agg #[.int .i64 l, .int .i64 c], .bool b]) ∧ Below w.heap.size w w' ∧ RAns o l c b
end Go.Proofs.YtpojeinddnjpfaaGreatDoor
namespace Go.Proofs.YtpojeinddnjpfaaGreatDoor
set_option linter.unusedVariables false
open Go.RowKit Go.Maps Go.WideMaps

theorem keyedS : Keyed Tryz.prog 9 := string_keyed Tryz.underlying9
theorem keyedI : Keyed Tryz.prog 3 := int_keyed Tryz.underlying3
def IsSet {α : Type} (K : TypeId) (lit : α → Lit) (w : World) (b : Nat) (ks : List α) : Prop :=
 ∃ n, n ≤ ks.length ∧ w.ownsMap (H := Unit) Tryz.prog K unitElem b n (setOf (.agg []) (ks.map lit))
def litS (x : List UInt8) : Lit := .string x
def litI (x : Int) : Lit := .int .i64 x
theorem litS_key (x : List UInt8) : WideAt.IsKeyLit (litS x) := trivial
theorem litI_key (x : Int) : WideAt.IsKeyLit (litI x) := trivial
theorem litS_one (x y : List UInt8) (h : litS x = litS y) : x = y := by injection h
theorem litI_one (x y : Int) (h : litI x = litI y) : x = y := by injection h
theorem IsSet.old {α : Type} {K : TypeId} {lit : α → Lit} {w w' : World} {b : Nat} {ks : List α} (h : IsSet K lit w b ks) (hb : w'.heap[b]? = w.heap[b]?) : IsSet K lit w' b ks := by
 obtain ⟨n, hn, es, cl, h1, h2⟩ := h
 exact ⟨n, hn, es, cl, hb.trans h1, h2⟩
theorem IsSet.lt {α : Type} {K : TypeId} {lit : α → Lit} {w : World} {b : Nat} {ks : List α} (h : IsSet K lit w b ks) : b < w.heap.size := by
 obtain ⟨n, hn, es, cl, h1, h2⟩ := h
 exact (Array.getElem?_eq_some_iff.1 h1).1
theorem isSet_made {α : Type} (K : TypeId) (lit : α → Lit) {w : World} {b : Nat} (h : w.heap[b]? = some (.map #[] 0)) : IsSet K lit w b ([] : List α) :=
 ⟨0, Nat.zero_le _, #[], 0, h, ⟨by simp, MapKept.stamped_empty 0, by simp⟩, Nat.le_refl _, rfl⟩
theorem mem_any {α : Type} {lit : α → Lit} (hk : ∀ x, WideAt.IsKeyLit (lit x)) (hi : ∀ x y, lit x = lit y → x = y) [DecidableEq α] (ks : List α) (x : α) : (ks.map lit).any (fun y => y.sameKey (lit x)) = decide (x ∈ ks) := by
 rw [Bool.eq_iff_iff]
 simp only [List.any_map, List.any_eq_true, decide_eq_true_iff, Function.comp]
 constructor
 ·rintro ⟨y, hy, h⟩
  have := hi _ _ ((WideAt.sameKey_iff (hk x)).1 h)
  subst this; exact hy
 ·intro h
  exact ⟨x, h, (WideAt.sameKey_iff (hk x)).2 rfl⟩
theorem set_size {α : Type} {lit : α → Lit} (hk : ∀ x, WideAt.IsKeyLit (lit x)) (hi : ∀ x y, lit x = lit y → x = y) [DecidableEq α] (ks : List α) (x : α) :
  Maps.size ((setOf (H := Unit) (.agg []) (ks.map lit)).put (lit x) (.agg [])) = Maps.size (setOf (H := Unit) (.agg []) (ks.map lit)) + (if x ∈ ks then 0 else 1) := by
 have hkk : ∀ y ∈ ks.map lit, WideAt.IsKeyLit y := by
  intro y hy
  obtain ⟨z, _, rfl⟩ := List.mem_map.1 hy
  exact hk z
 rw [size_put (tidy_setOf _ _ hkk), has_setOf _ _ _ hkk, mem_any hk hi]
 by_cases h : x ∈ ks <;> simp [h]

theorem set2_all {w : World} {B : Nat} {T : TypeId} {z0 z1 : Value} (h : w.heap[B]? = some (.cells #[z0, z1] T (0, 0))) (x0 x1 : Value) :
  ∃ Y, ((w.setCell ⟨B, 0, none⟩ x0).setCell ⟨B, 1, none⟩ x1) = Y ∧ Y.heap[B]? = some (.cells #[x0, x1] T (0, 0)) ∧ (∀ b, b ≠ B → Y.heap[b]? = w.heap[b]?) ∧ Y.heap.size = w.heap.size ∧ Below B w Y := by
 refine ⟨_, rfl, ?_, fun b hb => ?_, by simp, ?_⟩
 ·rw [setCell_heap (setCell_heap h x0) x1]; rfl
 ·rw [Below.heap_setCell _ _ _ _ hb, Below.heap_setCell _ _ _ _ hb]
 ·exact (((Below.refl B w).setCell (p := ⟨B, 0, none⟩) (Nat.le_refl _) x0).setCell (p := ⟨B, 1, none⟩) (Nat.le_refl _) x1)
theorem pos_ret {w w0 : World} {B : Nat} (h : w.heap[B]? = some (.cells #[.int .i64 0, .int .i64 0] 31 (0, 0))) (hw : Below w0.heap.size w0 w) (hB : w0.heap.size ≤ B) (l c : Int) :
  ∃ Y, ((w.setCell ⟨B, 0, none⟩ (.int .i64 l)).setCell ⟨B, 1, none⟩ (.int .i64 c)) = Y ∧ Y.cell? ⟨B, 0, none⟩ = some (.int .i64 l) ∧ Y.cell? ⟨B, 1, none⟩ = some (.int .i64 c) ∧ Below w0.heap.size w0 Y := by
 obtain ⟨Y, hY, h8, ho, hz, hb⟩ := set2_all h (.int .i64 l) (.int .i64 c)
 exact ⟨Y, hY, by simp [World.cell?, h8], by simp [World.cell?, h8], hw.trans (hb.mono hB)⟩
set_option maxHeartbeats 4000000 in
theorem addS_any (b : Nat) (ks : List (List UInt8)) (x : (List UInt8)) (w : World) (h : IsSet 9 litS w b ks) (hx : x.length ≤ 1000000000000) (hl : ks.length ≤ 1000000) :
  Calls Tryz.prog 57 #[.map (some b), .string (mkB x)] w fun e w' => e = .returned (.bool (!decide (x ∈ ks))) ∧ IsSet 9 litS w' b (ks ++ [x]) ∧ w.grownBy w' (some b) := by
 obtain ⟨n, hn, hown⟩ := h
 have HOWN := Lib.hid hown
 have hkey : keyOf Tryz.prog 9 (.string (mkB x)) = some (litS x) := by
  have := keyOf_string_mk (P := Tryz.prog) (s := mkB x) Tryz.underlying9 (by rw [mkB_size]; unfold maxLen; omega)
  simpa [litS, mkB] using this
 have hsz := set_size litS_key litS_one ks x
 obtain ⟨D, hD⟩ : ∃ D, setOf (H := Unit) (.agg []) (ks.map litS) = D := ⟨_, rfl⟩
 have hsl := hown.size_le
 rw [hD] at hown hsz HOWN hsl
 obtain ⟨B, hB⟩ : ∃ B, (!decide (x ∈ ks)) = B := ⟨_, rfl⟩
 obtain ⟨s1, hs1⟩ : ∃ s1, Maps.size D = s1 := ⟨_, rfl⟩
 obtain ⟨s2, hs2⟩ : ∃ s2, Maps.size (D.put (litS x) (.agg [])) = s2 := ⟨_, rfl⟩
 have HRES : Hid (((s1 : Nat) : Int) < ((s2 : Nat) : Int) ↔ B = true) := by
  refine (?_ : _ ↔ _)
  rw [← hB, ← hs1, ← hs2, hsz]
  by_cases hm : x ∈ ks <;> simp [hm] <;> omega
 have HD := Lib.hid hD
 have HS1 := Lib.hid hs1
 have HS2 := Lib.hid hs2
 rw [hB]
 clear hD hsz hB hs1 hs2
 go_enter Tryz.func57, Tryz.ntmps57
 go_wp2_with (first
  | (at_len; refine wpList_len_own _ rfl _ 119 rfl 9 174 Tryz.underlying119 _ b n D rfl HOWN.out ?_; rw [HS1.out])
  | (at_mapUpdate; refine wpList_mapUpdate_own _ rfl _ _ _ 119 rfl 9 174 keyedS Tryz.underlying119 _ b n D rfl HOWN.out (by unfold maxLen; omega) _ _ _ rfl rfl hkey _ [] unitElem_mk ?_; intro w1 hown1 hgr1; have HOWN1 := Lib.hid hown1; have HGR := Lib.hid hgr1; clear hown1 hgr1 HOWN HS1)
  | (at_len; refine wpList_len_own _ rfl _ 119 rfl 9 174 Tryz.underlying119 _ b (n + 1) (D.put (litS x) (.agg [])) rfl HOWN1.out ?_; rw [HS2.out]))
 have hBv : decide (s1 < s2) = B := by
  have := HRES.out
  cases B
  ·simp at this ⊢; omega
  ·simp at this ⊢; omega
 rw [hBv]
 go_ret
 refine ⟨rfl, ⟨n + 1, by simp; omega, ?_⟩, HGR.out⟩
 rw [List.map_append, List.map_cons, List.map_nil, setOf_snoc, HD.out]
 exact HOWN1.out
set_option maxHeartbeats 4000000 in
theorem addI_any (b : Nat) (ks : List Int) (x : Int) (w : World) (h : IsSet 3 litI w b ks) (hx : (Lit.int .i64 x).wf = true) (hl : ks.length ≤ 1000000) :
  Calls Tryz.prog 60 #[.map (some b), .int .i64 x] w fun e w' => e = .returned (.bool (!decide (x ∈ ks))) ∧ IsSet 3 litI w' b (ks ++ [x]) ∧ w.grownBy w' (some b) := by
 obtain ⟨n, hn, hown⟩ := h
 have HOWN := Lib.hid hown
 have hkey : keyOf Tryz.prog 3 (.int .i64 x) = some (litI x) := keyOf_int_mk Tryz.underlying3 hx
 have hsz := set_size litI_key litI_one ks x
 obtain ⟨D, hD⟩ : ∃ D, setOf (H := Unit) (.agg []) (ks.map litI) = D := ⟨_, rfl⟩
 have hsl := hown.size_le
 rw [hD] at hown hsz HOWN hsl
 obtain ⟨B, hB⟩ : ∃ B, (!decide (x ∈ ks)) = B := ⟨_, rfl⟩
 obtain ⟨s1, hs1⟩ : ∃ s1, Maps.size D = s1 := ⟨_, rfl⟩
 obtain ⟨s2, hs2⟩ : ∃ s2, Maps.size (D.put (litI x) (.agg [])) = s2 := ⟨_, rfl⟩
 have HRES : Hid (((s1 : Nat) : Int) < ((s2 : Nat) : Int) ↔ B = true) := by
  refine (?_ : _ ↔ _)
  rw [← hB, ← hs1, ← hs2, hsz]
  by_cases hm : x ∈ ks <;> simp [hm] <;> omega
 have HD := Lib.hid hD
 have HS1 := Lib.hid hs1
 have HS2 := Lib.hid hs2
 rw [hB]
 clear hD hsz hB hs1 hs2
 go_enter Tryz.func60, Tryz.ntmps60
 go_wp2_with (first
  | (at_len; refine wpList_len_own _ rfl _ 122 rfl 3 174 Tryz.underlying122 _ b n D rfl HOWN.out ?_; rw [HS1.out])
  | (at_mapUpdate; refine wpList_mapUpdate_own _ rfl _ _ _ 122 rfl 3 174 keyedI Tryz.underlying122 _ b n D rfl HOWN.out (by unfold maxLen; omega) _ _ _ rfl rfl hkey _ [] unitElem_mk ?_; intro w1 hown1 hgr1; have HOWN1 := Lib.hid hown1; have HGR := Lib.hid hgr1; clear hown1 hgr1 HOWN HS1)
  | (at_len; refine wpList_len_own _ rfl _ 122 rfl 3 174 Tryz.underlying122 _ b (n + 1) (D.put (litI x) (.agg [])) rfl HOWN1.out ?_; rw [HS2.out]))
 have hBv : decide (s1 < s2) = B := by
  have := HRES.out
  cases B
  ·simp at this ⊢; omega
  ·simp at this ⊢; omega
 rw [hBv]
 go_ret
 refine ⟨rfl, ⟨n + 1, by simp; omega, ?_⟩, HGR.out⟩
 rw [List.map_append, List.map_cons, List.map_nil, setOf_snoc, HD.out]
 exact HOWN1.out
end Go.Proofs.YtpojeinddnjpfaaGreatDoor
namespace Go.Proofs.YtpojeinddnjpfaaGreatDoor
set_option linter.unusedVariables false
open Go.ChangeShapes Go.WideShapes Go.ChangeAt Go.RowKit

def fdrow (x : FD) : List Value := [.int .i64 x.num, .string (mkB x.name), .int .i64 x.kind, .bool x.rep, .int .i64 x.type]
def vdrow (x : VD) : List Value := [.string (mkB x.name), .int .i64 x.num]
def tdrow (x : TD) : List Value := [.int .i64 x.id, .string (mkB x.service), .string (mkB x.name), .int .i64 x.inp, .int .i64 x.out]
def HeldN {α β : Type} (nm : α → List UInt8) (kids : α → List β) (k : Nat) (row : β → List Value) (w : World) (S : Nat → Prop) (v : Value) (xs : List α) : Prop :=
 ∃ ad c, v = .slice ad xs.length c ∧ xs.length ≤ c ∧ (xs = [] ∨ ∃ g o, ad = some ⟨g, o, none⟩ ∧ S g ∧ ∀ (j : Nat) (x : α), xs[j]? = some x →
   ∃ ka kc, w.cell? ⟨g, o + j * 2, none⟩ = some (.string (mkB (nm x))) ∧ w.cell? ⟨g, o + j * 2 + 1, none⟩ = some (.slice ka (kids x).length kc) ∧ RowsIn w S k row (.slice ka (kids x).length kc) (kids x))
def HeldM := @HeldN MD FD MD.name MD.fields 5 fdrow
def HeldE := @HeldN ED VD ED.name ED.values 2 vdrow
def HeldT (w : World) (S : Nat → Prop) (v : Value) (ts : List TD) : Prop := RowsIn w S 5 tdrow v ts
def HeldSc (w : World) (S : Nat → Prop) (a b c : Value) (s : SC) : Prop := HeldM w S a s.ms ∧ HeldE w S b s.es ∧ HeldT w S c s.ts
section
variable {α β : Type} {nm : α → List UInt8} {kids : α → List β} {k : Nat} {row : β → List Value} {w w' W : World} {S S' : Nat → Prop} {v : Value} {xs : List α}
theorem HeldN.old (h : HeldN nm kids k row w S v xs) (hb : ∀ b, S b → w'.heap[b]? = w.heap[b]?) : HeldN nm kids k row w' S v xs := by
 obtain ⟨ad, c, hv, hc, h⟩ := h
 refine ⟨ad, c, hv, hc, h.imp id ?_⟩
 rintro ⟨g, o, ha, hg, h⟩
 refine ⟨g, o, ha, hg, fun j d hj => ?_⟩
 obtain ⟨ka, kc, h0, h1, h2⟩ := h j d hj
 exact ⟨ka, kc, by rw [World.cell?_of_block (hb g hg)]; exact h0, by rw [World.cell?_of_block (hb g hg)]; exact h1, h2.old hb⟩
theorem HeldN.more (h : HeldN nm kids k row w S v xs) (hb : ∀ b, S b → S' b) : HeldN nm kids k row w S' v xs := by
 obtain ⟨ad, c, hv, hc, h⟩ := h
 refine ⟨ad, c, hv, hc, h.imp id ?_⟩
 rintro ⟨g, o, ha, hg, h⟩
 refine ⟨g, o, ha, hb g hg, fun j d hj => ?_⟩
 obtain ⟨ka, kc, h0, h1, h2⟩ := h j d hj
 exact ⟨ka, kc, h0, h1, h2.more hb⟩
theorem HeldN.isSl (h : HeldN nm kids k row w S v xs) : ∃ ad c, v = .slice ad xs.length c := by
 obtain ⟨ad, c, hv, _⟩ := h
 exact ⟨ad, c, hv⟩
theorem HeldN.nil (ad : Option Addr) (c : Nat) : HeldN nm kids k row w S (.slice ad 0 c) ([] : List α) := ⟨ad, c, rfl, Nat.zero_le _, .inl rfl⟩
theorem HeldN.at (h : HeldN nm kids k row w S v xs) (hW : ∀ b, S b → W.heap[b]? = w.heap[b]?) {q : Nat} {x : α} (hx : xs[q]? = some x) :
  ∃ g o c ka kc, v = .slice (some ⟨g, o, none⟩) xs.length c ∧ S g ∧ W.cell? ⟨g, o + q * 2, none⟩ = some (.string (mkB (nm x))) ∧ W.cell? ⟨g, o + q * 2 + 1, none⟩ = some (.slice ka (kids x).length kc) ∧ RowsIn W S k row (.slice ka (kids x).length kc) (kids x) := by
 obtain ⟨ad, c, hsl, hcc, hrows⟩ := h
 rcases hrows with h0 | ⟨g, o, had, hg, hrow⟩
 ·rw [h0] at hx; simp at hx
 subst had
 obtain ⟨ka, kc, h0, h1, h2⟩ := hrow q x hx
 have hb := hW g hg
 exact ⟨g, o, c, ka, kc, hsl, hg, by rw [World.cell?_of_block hb]; exact h0, by rw [World.cell?_of_block hb]; exact h1, h2.old hW⟩
end
theorem fd_at {w W : World} {S : Nat → Prop} {v : Value} {xs : List FD} (h : RowsIn w S 5 fdrow v xs) (hW : ∀ b, S b → W.heap[b]? = w.heap[b]?) {q : Nat} {x : FD} (hx : xs[q]? = some x) :
  ∃ g o c, v = .slice (some ⟨g, o, none⟩) xs.length c ∧ S g ∧ W.cell? ⟨g, o + q * 5, none⟩ = some (.int .i64 x.num) ∧ W.cell? ⟨g, o + q * 5 + 1, none⟩ = some (.string (mkB x.name)) ∧ W.cell? ⟨g, o + q * 5 + 2, none⟩ = some (.int .i64 x.kind) ∧
   W.cell? ⟨g, o + q * 5 + 3, none⟩ = some (.bool x.rep) ∧ W.cell? ⟨g, o + q * 5 + 4, none⟩ = some (.int .i64 x.type) := by
 obtain ⟨ad, c, hsl, hcc, hrows⟩ := h
 rcases hrows with h0 | ⟨g, o, had, hg, hrow⟩
 ·rw [h0] at hx; simp at hx
 subst had
 have hb := hW g hg
 have hc : ∀ i u, (fdrow x)[i]? = some u → W.cell? ⟨g, o + (q * 5 + i), none⟩ = some u := fun i u hu => by
  rw [World.cell?_of_block hb]; exact hrow q x hx i u hu
 refine ⟨g, o, c, hsl, hg, ?_, ?_, ?_, ?_, ?_⟩
 ·have := hc 0 _ rfl; simpa [Nat.add_assoc] using this
 ·have := hc 1 _ rfl; simpa [Nat.add_assoc] using this
 ·have := hc 2 _ rfl; simpa [Nat.add_assoc] using this
 ·have := hc 3 _ rfl; simpa [Nat.add_assoc] using this
 ·have := hc 4 _ rfl; simpa [Nat.add_assoc] using this
/-! a row grows by one element -/
section
variable {T t : TypeId} {k bytes base n : Nat} {z : Value} {wx : World} {v : Value} {xs : List Value}
theorem row_pushL (ht : Tryz.prog.underlying t = some (.slice T)) (hin : (Tryz.prog.info? T).map (fun i => (i.zero, i.size, i.bytes)) = some (some z, k, bytes)) (hzk : z.cells.size = k) (hk0 : 0 < k)
  (h : wx.ownsRow base T k v n xs) (hb0 : base ≤ wx.heap.size) (r : List Value) (hrl : r.length = k) (hr1 : ∀ u ∈ r, u.oneCell' = true) (B : Nat) (hB : wx.heap[B]? = some (.cells r.toArray T (0, 0)))
  {ops : Array Oper} {rest : List Oper} {o : Oper} {a : Act} {Q : Exit → Act → World → Prop} (hgd : o.guard = none) (s' x' : Operand)
  (ho : o.op = .call { callee := .builtin .append, args := #[s', x'], argTypes := #[t, t] }) (hs : a.eval s' = v) (hx : a.eval x' = .slice (some ⟨B, 0, none⟩) 1 1) (hm : n + 1 ≤ maxLen) (hbd : (n + 1) * bytes ≤ 140737488355328)
  (hk : ∀ g cap W, W.ownsRow base T k (.slice (some ⟨g, 0, none⟩) (n + 1) cap) (n + 1) (xs ++ r) → wx.grownBy W v.ownBlock → (v.ownBlock = some g ∨ g = wx.heap.size) → g < W.heap.size → wpList Tryz.prog ops Q rest (a.put o.dst (.slice (some ⟨g, 0, none⟩) (n + 1) cap)) W) :
  wpList Tryz.prog ops Q (o :: rest) a wx := by
 obtain ⟨i0, hi0, hz0, hz1, hz2⟩ := info_parts hin
 exact wpList_append_lies _ hgd s' x' t ho base T i0 z k bytes ht hi0 hz0 hz1 hz2 hzk hk0 v n xs hs h ⟨B, 0, none⟩ 1 1 r hx (by rw [hrl, Nat.one_mul]) (World.news_of_block (cs := r.toArray) (t := T) (fr := (0, 0)) hB) hr1 (by decide) hm hbd hb0 _ rfl hk
theorem row_pushS (ht : Tryz.prog.underlying t = some (.slice T)) (hin : (Tryz.prog.info? T).map (fun i => (i.zero, i.size, i.bytes)) = some (some z, k, bytes)) (hzk : z.cells.size = k) (hk0 : 0 < k)
  (h : wx.ownsRow base T k v n xs) (hb0 : base ≤ wx.heap.size) (r : List Value) (hrl : r.length = k) (hr1 : ∀ u ∈ r, u.oneCell' = true) (B : Nat) (hB : wx.heap[B]? = some (.cells r.toArray T (0, 0)))
  {ops : Array Oper} {o : Oper} {a : Act} {K : Act → World → Prop} {Q : Exit → Act → World → Prop} {E : Prop} (hgd : o.guard = none) (s' x' : Operand)
  (ho : o.op = .call { callee := .builtin .append, args := #[s', x'], argTypes := #[t, t] }) (hs : a.eval s' = v) (hx : a.eval x' = .slice (some ⟨B, 0, none⟩) 1 1) (hm : n + 1 ≤ maxLen) (hbd : (n + 1) * bytes ≤ 140737488355328)
  (hk : ∀ g cap W, W.ownsRow base T k (.slice (some ⟨g, 0, none⟩) (n + 1) cap) (n + 1) (xs ++ r) → wx.grownBy W v.ownBlock → (v.ownBlock = some g ∨ g = wx.heap.size) → g < W.heap.size → K (a.put o.dst (.slice (some ⟨g, 0, none⟩) (n + 1) cap)) W) :
  if Region.wanted o (yielded ops a.tmps) = true then Oper.wp Tryz.prog o a wx K Q else E := by
 obtain ⟨i0, hi0, hz0, hz1, hz2⟩ := info_parts hin
 exact step_append_lies _ hgd s' x' t ho base T i0 z k bytes ht hi0 hz0 hz1 hz2 hzk hk0 v n xs hs h ⟨B, 0, none⟩ 1 1 r hx (by rw [hrl, Nat.one_mul]) (World.news_of_block (cs := r.toArray) (t := T) (fr := (0, 0)) hB) hr1 (by decide) hm hbd hb0 _ rfl hk
end
theorem own_cut {w : World} {base : Nat} {T : TypeId} {g n cap : Nat} {xs : List Value} {x : Value} (h : w.ownsRow base T 1 (.slice (some ⟨g, 0, none⟩) (n + 1) cap) (n + 1) (xs ++ [x])) : w.ownsRow base T 1 (.slice (some ⟨g, 0, none⟩) n cap) n xs := by
 obtain ⟨hl, ⟨hv, h0⟩ | ⟨g', cap', cur, hv, hg, hh, h3, h4, h5, h6⟩⟩ := h
 ·cases hv
 ·have hv' : g = g' ∧ cap = cap' := by
   injection hv with h1 h2 h3
   injection h1 with h1
   injection h1 with h1
   exact ⟨h1, h3⟩
  obtain ⟨rfl, rfl⟩ := hv'
  have hxl : xs.length = n := by simpa using hl
  refine ⟨by omega, .inr ⟨g, cap, cur, rfl, hg, hh, by omega, h4, h5, ?_⟩⟩
  have e1 : cur.toList.take n = (cur.toList.take ((n + 1) * 1)).take n := by rw [List.take_take, Nat.min_eq_left (by omega)]
  have e2 : (xs ++ [x]).take n = xs := by rw [List.take_append_of_le_length (by omega), List.take_of_length_le (l := xs) (by omega)]
  rw [Nat.mul_one, e1, h6, e2]
theorem own_last {w : World} {base : Nat} {T : TypeId} {g n cap : Nat} {xs : List Value} {x : Value} (h : w.ownsRow base T 1 (.slice (some ⟨g, 0, none⟩) (n + 1) cap) (n + 1) (xs ++ [x])) : w.cell? ⟨g, n, none⟩ = some x ∧ n + 1 ≤ cap := by
 obtain ⟨hl, ⟨hv, h0⟩ | ⟨g', cap', cur, hv, hg, hh, h3, h4, h5, h6⟩⟩ := h
 ·cases hv
 ·have hv' : g = g' ∧ cap = cap' := by
   injection hv with h1 h2 h3
   injection h1 with h1
   injection h1 with h1
   exact ⟨h1, h3⟩
  obtain ⟨rfl, rfl⟩ := hv'
  have hxl : xs.length = n := by simpa using hl
  refine ⟨?_, h3⟩
  have e : (cur.toList.take ((n + 1) * 1))[n]? = some x := by rw [h6, List.getElem?_append_right (by omega), hxl]; simp
  rw [List.getElem?_take, if_pos (by omega)] at e
  simp only [World.cell?, hh]
  simpa using e
end Go.Proofs.YtpojeinddnjpfaaGreatDoor
namespace Go.Proofs.YtpojeinddnjpfaaGreatDoor
set_option linter.unusedVariables false
open Go.ChangeShapes Go.WideShapes Go.ChangeAt Go.RowKit

theorem drewn_block {wr W5 : World} {o : Obj} (h : Below (wr.alloc o).drew.heap.size (wr.alloc o).drew W5) : W5.heap[wr.heap.size]? = some o :=
 (h.block wr.heap.size (by show wr.heap.size < (wr.heap.push o).size; simp)).trans (alloc_heap_new wr o)
theorem z8_cells {W : World} {B : Nat} {T : TypeId} (h : W.heap[B]? = some (.cells z8 T (0, 0))) : W.cell? ⟨B, 0, none⟩ = some (.int .i64 0) ∧ W.cell? ⟨B, 1, none⟩ = some (.string ⟨#[]⟩) ∧ W.cell? ⟨B, 2, none⟩ = some (.int .i64 0) ∧ W.cell? ⟨B, 3, none⟩ = some (.int .i64 0) ∧ W.cell? ⟨B, 4, none⟩ = some (.slice none 0 0) ∧ W.cell? ⟨B, 5, none⟩ = some (.slice none 0 0) ∧ W.cell? ⟨B, 6, none⟩ = some (.slice none 0 0) ∧ W.cell? ⟨B, 7, none⟩ = some (.slice none 0 0) ∧ W.frozen? ⟨B, 0, none⟩ = false ∧ W.frozen? ⟨B, 1, none⟩ = false ∧ W.frozen? ⟨B, 2, none⟩ = false ∧ W.frozen? ⟨B, 3, none⟩ = false ∧ W.frozen? ⟨B, 4, none⟩ = false ∧ W.frozen? ⟨B, 5, none⟩ = false ∧ W.frozen? ⟨B, 6, none⟩ = false ∧ W.frozen? ⟨B, 7, none⟩ = false := by
 refine ⟨?_, ?_, ?_, ?_, ?_, ?_, ?_, ?_, ?_, ?_, ?_, ?_, ?_, ?_, ?_, ?_⟩
 all_goals simp [World.cell?, World.frozen?, h]
def CAns (f : Nat) (w : World) (ds : List Dc) (e : Ending) (w' : World) : Prop :=
 ∃ ad c, e = .returned (.slice ad ds.length c) ∧ HeldD f w' (fun b => w.heap.size ≤ b ∧ b < w'.heap.size) (.slice ad ds.length c) ds ∧ Below w.heap.size w w'
end Go.Proofs.YtpojeinddnjpfaaGreatDoor
