/-
  Sets: maps without elements, as the program keeps them; the walks over their add.
  Schemas in memory; rows that grow. Nothing is proved of the program here.
  A cell of a block.
-/
import Derived.Test.YtkhnicppcbgdiaaGreatDoorM5
import Derived.Test.YtkhnicppcbgdiaaGreatDoorM4
import Derived.Test.YtkhnicppcbgdiaaGreatDoorM0
import Derived.Test.YtkhnicppcbgdiaaGreatDoorChecked
import Derived.Maps.OwnSet
import Derived.Deep.RegionLaw
import Derived.Deep.RegionHeldLaw
import Derived.Deep.AppendLies
import Derived.Deep.Cut
import Derived.Deep.DeepCutAuto
import Derived.Laws.AppendOwn
import Derived.OwnWalk
import Derived.Maps.AppendAt
import Derived.BigQuiet
import Derived.Deep.QuietTactic
import Derived.Lib.Hide
import Derived.WalkKit
namespace Go.Proofs.YtkhnicppcbgdiaaGreatDoor
set_option linter.unusedVariables false
open Go.RowKit Go.Maps Go.WideMaps

theorem keyedS : Keyed Tryz.prog 9 := string_keyed Tryz.underlying9
theorem keyedI : Keyed Tryz.prog 3 := int_keyed Tryz.underlying3
/-- a set that the call has made; lit: how a key reads -/
def IsSet {α : Type} (K : TypeId) (lit : α → Lit) (w : World) (b : Nat) (ks : List α) : Prop :=
  ∃ n, n ≤ ks.length ∧ w.ownsMap (H := Unit) Tryz.prog K unitElem b n (setOf (.agg []) (ks.map lit))
def litS (x : List UInt8) : Lit := .string x
def litI (x : Int) : Lit := .int .i64 x
theorem litS_key (x : List UInt8) : WideAt.IsKeyLit (litS x) := trivial
theorem litI_key (x : Int) : WideAt.IsKeyLit (litI x) := trivial
theorem litS_one (x y : List UInt8) (h : litS x = litS y) : x = y := by injection h
theorem litI_one (x y : Int) (h : litI x = litI y) : x = y := by injection h
theorem IsSet.old {α : Type} {K : TypeId} {lit : α → Lit} {w w' : World} {b : Nat} {ks : List α} (h : IsSet K lit w b ks) (hb : w'.heap[b]? = w.heap[b]?) : IsSet K lit w' b ks := by
  obtain ⟨n, hn, es, cl, h1, h2⟩ := h
  exact ⟨n, hn, es, cl, hb.trans h1, h2⟩
theorem IsSet.lt {α : Type} {K : TypeId} {lit : α → Lit} {w : World} {b : Nat} {ks : List α} (h : IsSet K lit w b ks) : b < w.heap.size := by
  obtain ⟨n, hn, es, cl, h1, h2⟩ := h
  exact (Array.getElem?_eq_some_iff.1 h1).1
theorem isSet_made {α : Type} (K : TypeId) (lit : α → Lit) {w : World} {b : Nat} (h : w.heap[b]? = some (.map #[] 0)) : IsSet K lit w b ([] : List α) :=
  ⟨0, Nat.zero_le _, #[], 0, h, ⟨by simp, MapKept.stamped_empty 0, by simp⟩, Nat.le_refl _, rfl⟩
theorem mem_any {α : Type} {lit : α → Lit} (hk : ∀ x, WideAt.IsKeyLit (lit x)) (hi : ∀ x y, lit x = lit y → x = y) [DecidableEq α] (ks : List α) (x : α) : (ks.map lit).any (fun y => y.sameKey (lit x)) = decide (x ∈ ks) := by
  rw [Bool.eq_iff_iff]
  simp only [List.any_map, List.any_eq_true, decide_eq_true_iff, Function.comp]
  constructor
  · rintro ⟨y, hy, h⟩
    have := hi _ _ ((WideAt.sameKey_iff (hk x)).1 h)
    subst this; exact hy
  · intro h
    exact ⟨x, h, (WideAt.sameKey_iff (hk x)).2 rfl⟩
/-- one key more -/
theorem set_size {α : Type} {lit : α → Lit} (hk : ∀ x, WideAt.IsKeyLit (lit x)) (hi : ∀ x y, lit x = lit y → x = y) [DecidableEq α] (ks : List α) (x : α) :
    Maps.size ((setOf (H := Unit) (.agg []) (ks.map lit)).put (lit x) (.agg [])) = Maps.size (setOf (H := Unit) (.agg []) (ks.map lit)) + (if x ∈ ks then 0 else 1) := by
  have hkk : ∀ y ∈ ks.map lit, WideAt.IsKeyLit y := by
    intro y hy
    obtain ⟨z, _, rfl⟩ := List.mem_map.1 hy
    exact hk z
  rw [size_put (tidy_setOf _ _ hkk), has_setOf _ _ _ hkk, mem_any hk hi]
  by_cases h : x ∈ ks <;> simp [h]

set_option maxHeartbeats 4000000 in
theorem addS_any (b : Nat) (ks : List (List UInt8)) (x : (List UInt8)) (w : World) (h : IsSet 9 litS w b ks) (hx : x.length ≤ 1000000000000) (hl : ks.length ≤ 1000000) :
    Calls Tryz.prog 51 #[.map (some b), .string (mkB x)] w fun e w' => e = .returned (.bool (!decide (x ∈ ks))) ∧ IsSet 9 litS w' b (ks ++ [x]) ∧ w.grownBy w' (some b) := by
  obtain ⟨n, hn, hown⟩ := h
  have HOWN := Lib.hid hown
  have hkey : keyOf Tryz.prog 9 (.string (mkB x)) = some (litS x) := by
    have := keyOf_string_mk (P := Tryz.prog) (s := mkB x) Tryz.underlying9 (by rw [mkB_size]; unfold maxLen; omega)
    simpa [litS, mkB] using this
  have hsz := set_size litS_key litS_one ks x
  obtain ⟨D, hD⟩ : ∃ D, setOf (H := Unit) (.agg []) (ks.map litS) = D := ⟨_, rfl⟩
  have hsl := hown.size_le
  rw [hD] at hown hsz HOWN hsl
  obtain ⟨B, hB⟩ : ∃ B, (!decide (x ∈ ks)) = B := ⟨_, rfl⟩
  obtain ⟨s1, hs1⟩ : ∃ s1, Maps.size D = s1 := ⟨_, rfl⟩
  obtain ⟨s2, hs2⟩ : ∃ s2, Maps.size (D.put (litS x) (.agg [])) = s2 := ⟨_, rfl⟩
  have HRES : Hid (((s1 : Nat) : Int) < ((s2 : Nat) : Int) ↔ B = true) := by
    refine (?_ : _ ↔ _)
    rw [← hB, ← hs1, ← hs2, hsz]
    by_cases hm : x ∈ ks <;> simp [hm] <;> omega
  have HD := Lib.hid hD
  have HS1 := Lib.hid hs1
  have HS2 := Lib.hid hs2
  rw [hB]
  clear hD hsz hB hs1 hs2
  go_enter Tryz.func51, Tryz.ntmps51
  go_wp2_with (first
    | (at_len; refine wpList_len_own _ rfl _ 101 rfl 9 73 Tryz.underlying101 _ b n D rfl HOWN.out ?_; rw [HS1.out])
    | (at_mapUpdate; refine wpList_mapUpdate_own _ rfl _ _ _ 101 rfl 9 73 keyedS Tryz.underlying101 _ b n D rfl HOWN.out (by unfold maxLen; omega) _ _ _ rfl rfl hkey _ [] unitElem_mk ?_; intro w1 hown1 hgr1; have HOWN1 := Lib.hid hown1; have HGR := Lib.hid hgr1; clear hown1 hgr1 HOWN HS1)
    | (at_len; refine wpList_len_own _ rfl _ 101 rfl 9 73 Tryz.underlying101 _ b (n + 1) (D.put (litS x) (.agg [])) rfl HOWN1.out ?_; rw [HS2.out]))
  have hBv : decide (s1 < s2) = B := by
    have := HRES.out
    cases B
    · simp at this ⊢; omega
    · simp at this ⊢; omega
  rw [hBv]
  go_ret
  refine ⟨rfl, ⟨n + 1, by simp; omega, ?_⟩, HGR.out⟩
  rw [List.map_append, List.map_cons, List.map_nil, setOf_snoc, HD.out]
  exact HOWN1.out
set_option maxHeartbeats 4000000 in
theorem addI_any (b : Nat) (ks : List Int) (x : Int) (w : World) (h : IsSet 3 litI w b ks) (hx : (Lit.int .i64 x).wf = true) (hl : ks.length ≤ 1000000) :
    Calls Tryz.prog 80 #[.map (some b), .int .i64 x] w fun e w' => e = .returned (.bool (!decide (x ∈ ks))) ∧ IsSet 3 litI w' b (ks ++ [x]) ∧ w.grownBy w' (some b) := by
  obtain ⟨n, hn, hown⟩ := h
  have HOWN := Lib.hid hown
  have hkey : keyOf Tryz.prog 3 (.int .i64 x) = some (litI x) := keyOf_int_mk Tryz.underlying3 hx
  have hsz := set_size litI_key litI_one ks x
  obtain ⟨D, hD⟩ : ∃ D, setOf (H := Unit) (.agg []) (ks.map litI) = D := ⟨_, rfl⟩
  have hsl := hown.size_le
  rw [hD] at hown hsz HOWN hsl
  obtain ⟨B, hB⟩ : ∃ B, (!decide (x ∈ ks)) = B := ⟨_, rfl⟩
  obtain ⟨s1, hs1⟩ : ∃ s1, Maps.size D = s1 := ⟨_, rfl⟩
  obtain ⟨s2, hs2⟩ : ∃ s2, Maps.size (D.put (litI x) (.agg [])) = s2 := ⟨_, rfl⟩
  have HRES : Hid (((s1 : Nat) : Int) < ((s2 : Nat) : Int) ↔ B = true) := by
    refine (?_ : _ ↔ _)
    rw [← hB, ← hs1, ← hs2, hsz]
    by_cases hm : x ∈ ks <;> simp [hm] <;> omega
  have HD := Lib.hid hD
  have HS1 := Lib.hid hs1
  have HS2 := Lib.hid hs2
  rw [hB]
  clear hD hsz hB hs1 hs2
  go_enter Tryz.func80, Tryz.ntmps80
  go_wp2_with (first
    | (at_len; refine wpList_len_own _ rfl _ 121 rfl 3 73 Tryz.underlying121 _ b n D rfl HOWN.out ?_; rw [HS1.out])
    | (at_mapUpdate; refine wpList_mapUpdate_own _ rfl _ _ _ 121 rfl 3 73 keyedI Tryz.underlying121 _ b n D rfl HOWN.out (by unfold maxLen; omega) _ _ _ rfl rfl hkey _ [] unitElem_mk ?_; intro w1 hown1 hgr1; have HOWN1 := Lib.hid hown1; have HGR := Lib.hid hgr1; clear hown1 hgr1 HOWN HS1)
    | (at_len; refine wpList_len_own _ rfl _ 121 rfl 3 73 Tryz.underlying121 _ b (n + 1) (D.put (litI x) (.agg [])) rfl HOWN1.out ?_; rw [HS2.out]))
  have hBv : decide (s1 < s2) = B := by
    have := HRES.out
    cases B
    · simp at this ⊢; omega
    · simp at this ⊢; omega
  rw [hBv]
  go_ret
  refine ⟨rfl, ⟨n + 1, by simp; omega, ?_⟩, HGR.out⟩
  rw [List.map_append, List.map_cons, List.map_nil, setOf_snoc, HD.out]
  exact HOWN1.out
end Go.Proofs.YtkhnicppcbgdiaaGreatDoor
namespace Go.Proofs.YtkhnicppcbgdiaaGreatDoor
set_option linter.unusedVariables false
open Go.ChangeShapes Go.WideShapes Go.ChangeAt Go.RowKit

def fdrow (x : FD) : List Value := [.int .i64 x.num, .string (mkB x.name), .int .i64 x.kind, .bool x.rep, .int .i64 x.type]
def vdrow (x : VD) : List Value := [.string (mkB x.name), .int .i64 x.num]
def tdrow (x : TD) : List Value := [.int .i64 x.id, .string (mkB x.service), .string (mkB x.name), .int .i64 x.inp, .int .i64 x.out]
/-- named tables lie in memory: a name and a slice each -/
def HeldN {α β : Type} (nm : α → List UInt8) (kids : α → List β) (k : Nat) (row : β → List Value) (w : World) (S : Nat → Prop) (v : Value) (xs : List α) : Prop :=
  ∃ ad c, v = .slice ad xs.length c ∧ xs.length ≤ c ∧ (xs = [] ∨ ∃ g o, ad = some ⟨g, o, none⟩ ∧ S g ∧ ∀ (j : Nat) (x : α), xs[j]? = some x →
      ∃ ka kc, w.cell? ⟨g, o + j * 2, none⟩ = some (.string (mkB (nm x))) ∧ w.cell? ⟨g, o + j * 2 + 1, none⟩ = some (.slice ka (kids x).length kc) ∧ RowsIn w S k row (.slice ka (kids x).length kc) (kids x))
def HeldM := @HeldN MD FD MD.name MD.fields 5 fdrow
def HeldE := @HeldN ED VD ED.name ED.values 2 vdrow
def HeldT (w : World) (S : Nat → Prop) (v : Value) (ts : List TD) : Prop := RowsIn w S 5 tdrow v ts
/-- a schema lies in memory -/
def HeldSc (w : World) (S : Nat → Prop) (a b c : Value) (s : SC) : Prop := HeldM w S a s.ms ∧ HeldE w S b s.es ∧ HeldT w S c s.ts
section
variable {α β : Type} {nm : α → List UInt8} {kids : α → List β} {k : Nat} {row : β → List Value} {w w' W : World} {S S' : Nat → Prop} {v : Value} {xs : List α}
theorem HeldN.old (h : HeldN nm kids k row w S v xs) (hb : ∀ b, S b → w'.heap[b]? = w.heap[b]?) : HeldN nm kids k row w' S v xs := by
  obtain ⟨ad, c, hv, hc, h⟩ := h
  refine ⟨ad, c, hv, hc, h.imp id ?_⟩
  rintro ⟨g, o, ha, hg, h⟩
  refine ⟨g, o, ha, hg, fun j d hj => ?_⟩
  obtain ⟨ka, kc, h0, h1, h2⟩ := h j d hj
  exact ⟨ka, kc, by rw [World.cell?_of_block (hb g hg)]; exact h0, by rw [World.cell?_of_block (hb g hg)]; exact h1, h2.old hb⟩
theorem HeldN.more (h : HeldN nm kids k row w S v xs) (hb : ∀ b, S b → S' b) : HeldN nm kids k row w S' v xs := by
  obtain ⟨ad, c, hv, hc, h⟩ := h
  refine ⟨ad, c, hv, hc, h.imp id ?_⟩
  rintro ⟨g, o, ha, hg, h⟩
  refine ⟨g, o, ha, hb g hg, fun j d hj => ?_⟩
  obtain ⟨ka, kc, h0, h1, h2⟩ := h j d hj
  exact ⟨ka, kc, h0, h1, h2.more hb⟩
theorem HeldN.isSl (h : HeldN nm kids k row w S v xs) : ∃ ad c, v = .slice ad xs.length c := by
  obtain ⟨ad, c, hv, _⟩ := h
  exact ⟨ad, c, hv⟩
theorem HeldN.nil (ad : Option Addr) (c : Nat) : HeldN nm kids k row w S (.slice ad 0 c) ([] : List α) := ⟨ad, c, rfl, Nat.zero_le _, .inl rfl⟩
theorem HeldN.at (h : HeldN nm kids k row w S v xs) (hW : ∀ b, S b → W.heap[b]? = w.heap[b]?) {q : Nat} {x : α} (hx : xs[q]? = some x) :
    ∃ g o c ka kc, v = .slice (some ⟨g, o, none⟩) xs.length c ∧ S g ∧ W.cell? ⟨g, o + q * 2, none⟩ = some (.string (mkB (nm x))) ∧ W.cell? ⟨g, o + q * 2 + 1, none⟩ = some (.slice ka (kids x).length kc) ∧ RowsIn W S k row (.slice ka (kids x).length kc) (kids x) := by
  obtain ⟨ad, c, hsl, hcc, hrows⟩ := h
  rcases hrows with h0 | ⟨g, o, had, hg, hrow⟩
  · rw [h0] at hx; simp at hx
  subst had
  obtain ⟨ka, kc, h0, h1, h2⟩ := hrow q x hx
  have hb := hW g hg
  exact ⟨g, o, c, ka, kc, hsl, hg, by rw [World.cell?_of_block hb]; exact h0, by rw [World.cell?_of_block hb]; exact h1, h2.old hW⟩
end
theorem fd_at {w W : World} {S : Nat → Prop} {v : Value} {xs : List FD} (h : RowsIn w S 5 fdrow v xs) (hW : ∀ b, S b → W.heap[b]? = w.heap[b]?) {q : Nat} {x : FD} (hx : xs[q]? = some x) :
    ∃ g o c, v = .slice (some ⟨g, o, none⟩) xs.length c ∧ S g ∧ W.cell? ⟨g, o + q * 5, none⟩ = some (.int .i64 x.num) ∧ W.cell? ⟨g, o + q * 5 + 1, none⟩ = some (.string (mkB x.name)) ∧ W.cell? ⟨g, o + q * 5 + 2, none⟩ = some (.int .i64 x.kind) ∧
      W.cell? ⟨g, o + q * 5 + 3, none⟩ = some (.bool x.rep) ∧ W.cell? ⟨g, o + q * 5 + 4, none⟩ = some (.int .i64 x.type) := by
  obtain ⟨ad, c, hsl, hcc, hrows⟩ := h
  rcases hrows with h0 | ⟨g, o, had, hg, hrow⟩
  · rw [h0] at hx; simp at hx
  subst had
  have hb := hW g hg
  have hc : ∀ i u, (fdrow x)[i]? = some u → W.cell? ⟨g, o + (q * 5 + i), none⟩ = some u := fun i u hu => by
    rw [World.cell?_of_block hb]; exact hrow q x hx i u hu
  refine ⟨g, o, c, hsl, hg, ?_, ?_, ?_, ?_, ?_⟩
  · have := hc 0 _ rfl; simpa [Nat.add_assoc] using this
  · have := hc 1 _ rfl; simpa [Nat.add_assoc] using this
  · have := hc 2 _ rfl; simpa [Nat.add_assoc] using this
  · have := hc 3 _ rfl; simpa [Nat.add_assoc] using this
  · have := hc 4 _ rfl; simpa [Nat.add_assoc] using this
/-! a row grows by one element -/
section
variable {T t : TypeId} {k bytes base n : Nat} {z : Value} {wx : World} {v : Value} {xs : List Value}
theorem row_pushL (ht : Tryz.prog.underlying t = some (.slice T)) (hin : (Tryz.prog.info? T).map (fun i => (i.zero, i.size, i.bytes)) = some (some z, k, bytes)) (hzk : z.cells.size = k) (hk0 : 0 < k)
    (h : wx.ownsRow base T k v n xs) (hb0 : base ≤ wx.heap.size) (r : List Value) (hrl : r.length = k) (hr1 : ∀ u ∈ r, u.oneCell' = true) (B : Nat) (hB : wx.heap[B]? = some (.cells r.toArray T (0, 0)))
    {ops : Array Oper} {rest : List Oper} {o : Oper} {a : Act} {Q : Exit → Act → World → Prop} (hgd : o.guard = none) (s' x' : Operand)
    (ho : o.op = .call { callee := .builtin .append, args := #[s', x'], argTypes := #[t, t] }) (hs : a.eval s' = v) (hx : a.eval x' = .slice (some ⟨B, 0, none⟩) 1 1) (hm : n + 1 ≤ maxLen) (hbd : (n + 1) * bytes ≤ 140737488355328)
    (hk : ∀ g cap W, W.ownsRow base T k (.slice (some ⟨g, 0, none⟩) (n + 1) cap) (n + 1) (xs ++ r) → wx.grownBy W v.ownBlock → (v.ownBlock = some g ∨ g = wx.heap.size) → g < W.heap.size → wpList Tryz.prog ops Q rest (a.put o.dst (.slice (some ⟨g, 0, none⟩) (n + 1) cap)) W) :
    wpList Tryz.prog ops Q (o :: rest) a wx := by
  obtain ⟨i0, hi0, hz0, hz1, hz2⟩ := info_parts hin
  exact wpList_append_lies _ hgd s' x' t ho base T i0 z k bytes ht hi0 hz0 hz1 hz2 hzk hk0 v n xs hs h ⟨B, 0, none⟩ 1 1 r hx (by rw [hrl, Nat.one_mul]) (World.news_of_block (cs := r.toArray) (t := T) (fr := (0, 0)) hB) hr1 (by decide) hm hbd hb0 _ rfl hk
theorem row_pushS (ht : Tryz.prog.underlying t = some (.slice T)) (hin : (Tryz.prog.info? T).map (fun i => (i.zero, i.size, i.bytes)) = some (some z, k, bytes)) (hzk : z.cells.size = k) (hk0 : 0 < k)
    (h : wx.ownsRow base T k v n xs) (hb0 : base ≤ wx.heap.size) (r : List Value) (hrl : r.length = k) (hr1 : ∀ u ∈ r, u.oneCell' = true) (B : Nat) (hB : wx.heap[B]? = some (.cells r.toArray T (0, 0)))
    {ops : Array Oper} {o : Oper} {a : Act} {K : Act → World → Prop} {Q : Exit → Act → World → Prop} {E : Prop} (hgd : o.guard = none) (s' x' : Operand)
    (ho : o.op = .call { callee := .builtin .append, args := #[s', x'], argTypes := #[t, t] }) (hs : a.eval s' = v) (hx : a.eval x' = .slice (some ⟨B, 0, none⟩) 1 1) (hm : n + 1 ≤ maxLen) (hbd : (n + 1) * bytes ≤ 140737488355328)
    (hk : ∀ g cap W, W.ownsRow base T k (.slice (some ⟨g, 0, none⟩) (n + 1) cap) (n + 1) (xs ++ r) → wx.grownBy W v.ownBlock → (v.ownBlock = some g ∨ g = wx.heap.size) → g < W.heap.size → K (a.put o.dst (.slice (some ⟨g, 0, none⟩) (n + 1) cap)) W) :
    if Region.wanted o (yielded ops a.tmps) = true then Oper.wp Tryz.prog o a wx K Q else E := by
  obtain ⟨i0, hi0, hz0, hz1, hz2⟩ := info_parts hin
  exact step_append_lies _ hgd s' x' t ho base T i0 z k bytes ht hi0 hz0 hz1 hz2 hzk hk0 v n xs hs h ⟨B, 0, none⟩ 1 1 r hx (by rw [hrl, Nat.one_mul]) (World.news_of_block (cs := r.toArray) (t := T) (fr := (0, 0)) hB) hr1 (by decide) hm hbd hb0 _ rfl hk
end
/-- a row of the call's own, cut by its last element -/
theorem own_cut {w : World} {base : Nat} {T : TypeId} {g n cap : Nat} {xs : List Value} {x : Value} (h : w.ownsRow base T 1 (.slice (some ⟨g, 0, none⟩) (n + 1) cap) (n + 1) (xs ++ [x])) : w.ownsRow base T 1 (.slice (some ⟨g, 0, none⟩) n cap) n xs := by
  obtain ⟨hl, ⟨hv, h0⟩ | ⟨g', cap', cur, hv, hg, hh, h3, h4, h5, h6⟩⟩ := h
  · cases hv
  · have hv' : g = g' ∧ cap = cap' := by
      injection hv with h1 h2 h3
      injection h1 with h1
      injection h1 with h1
      exact ⟨h1, h3⟩
    obtain ⟨rfl, rfl⟩ := hv'
    have hxl : xs.length = n := by simpa using hl
    refine ⟨by omega, .inr ⟨g, cap, cur, rfl, hg, hh, by omega, h4, h5, ?_⟩⟩
    have e1 : cur.toList.take n = (cur.toList.take ((n + 1) * 1)).take n := by rw [List.take_take, Nat.min_eq_left (by omega)]
    have e2 : (xs ++ [x]).take n = xs := by rw [List.take_append_of_le_length (by omega), List.take_of_length_le (l := xs) (by omega)]
    rw [Nat.mul_one, e1, h6, e2]
/-- the last element of such a row -/
theorem own_last {w : World} {base : Nat} {T : TypeId} {g n cap : Nat} {xs : List Value} {x : Value} (h : w.ownsRow base T 1 (.slice (some ⟨g, 0, none⟩) (n + 1) cap) (n + 1) (xs ++ [x])) : w.cell? ⟨g, n, none⟩ = some x ∧ n + 1 ≤ cap := by
  obtain ⟨hl, ⟨hv, h0⟩ | ⟨g', cap', cur, hv, hg, hh, h3, h4, h5, h6⟩⟩ := h
  · cases hv
  · have hv' : g = g' ∧ cap = cap' := by
      injection hv with h1 h2 h3
      injection h1 with h1
      injection h1 with h1
      exact ⟨h1, h3⟩
    obtain ⟨rfl, rfl⟩ := hv'
    have hxl : xs.length = n := by simpa using hl
    refine ⟨?_, h3⟩
    have e : (cur.toList.take ((n + 1) * 1))[n]? = some x := by rw [h6, List.getElem?_append_right (by omega), hxl]; simp
    rw [List.getElem?_take, if_pos (by omega)] at e
    simp only [World.cell?, hh]
    simpa using e
end Go.Proofs.YtkhnicppcbgdiaaGreatDoor
namespace Go.Proofs.YtkhnicppcbgdiaaGreatDoor
theorem cell_at {w : World} {B : Nat} {cs : Array Value} {T : TypeId} {fr : Nat × Nat} {v : Value} (h : w.heap[B]? = some (.cells cs T fr)) (i : Nat) (e : cs.toList[i]? = some v) : w.cell? ⟨B, i, none⟩ = some v := by
  simp only [World.cell?, h]
  simpa using e
theorem frozen_at {w : World} {B : Nat} {cs : Array Value} {T : TypeId} (h : w.heap[B]? = some (.cells cs T (0, 0))) (i : Nat) : w.frozen? ⟨B, i, none⟩ = false := by
  simp [World.frozen?, h]
end Go.Proofs.YtkhnicppcbgdiaaGreatDoor
