/-
  Cells of tables, new blocks. Nothing is proved of the program here.
  Values and nodes in memory. Nothing is proved of the program here.
  The walks over the small functions of package value, and of the document: types of fields, and which field is meant.
  The normal value, as a plain tree. Nothing is proved of the program here.
  How much a value's tree weighs, and the range of its numbers. Nothing is proved of the program here.
  The walks over the functions that append fixed numbers (Append32, Append64): the bytes come into one new block, behind them the number's bytes, the lowest first; nothing else changes. And of these bytes the number comes back.
  The bytes of a field, as a plain function. Nothing is proved of the program here.
-/
import Derived.Test.YteajlfgbmefncaaGreatDoorM6
import Derived.Test.YteajlfgbmefncaaGreatDoorM5
import Derived.BigQuiet
import Derived.Test.YteajlfgbmefncaaGreatDoorM2
import Derived.Test.YteajlfgbmefncaaGreatDoorM1
namespace Go.Proofs.YteajlfgbmefncaaGreatDoor
set_option linter.unusedVariables false
open Go.ChangeShapes Go.WideShapes Go.ChangeAt Go.RowKit

theorem box_new (w : World) (cs : Array Value) (T : TypeId) : ∃ Y, w.alloc (.cells cs T) = Y ∧ Y.heap[w.heap.size]? = some (.cells cs T (0, 0)) ∧ Below w.heap.size w Y ∧ Y.heap.size = w.heap.size + 1 :=
  ⟨_, rfl, alloc_heap_new _ _, (Below.refl _ w).alloc (Nat.le_refl _) _, by simp⟩
theorem map_new (w : World) : ∃ Y, w.alloc (.map #[] 0) = Y ∧ Y.heap[w.heap.size]? = some (.map #[] 0) ∧ Below w.heap.size w Y ∧ Y.heap.size = w.heap.size + 1 :=
  ⟨_, rfl, alloc_heap_new _ _, (Below.refl _ w).alloc (Nat.le_refl _) _, by simp⟩
theorem slice_two {a a' : Option Addr} {n n' c c' : Nat} (h : Value.slice a n c = .slice a' n' c') : a = a' ∧ c = c' := by
  injection h with h1 _ h3
  exact ⟨h1, h3⟩
theorem vd_at {w W : World} {S : Nat → Prop} {v : Value} {xs : List VD} (h : RowsIn w S 2 vdrow v xs) (hW : ∀ b, S b → W.heap[b]? = w.heap[b]?) {q : Nat} {x : VD} (hx : xs[q]? = some x) :
    ∃ g o c, v = .slice (some ⟨g, o, none⟩) xs.length c ∧ S g ∧ W.cell? ⟨g, o + q * 2, none⟩ = some (.string (mkB x.name)) ∧ W.cell? ⟨g, o + q * 2 + 1, none⟩ = some (.int .i64 x.num) := by
  obtain ⟨ad, c, hsl, hcc, hrows⟩ := h
  rcases hrows with h0 | ⟨g, o, had, hg, hrow⟩
  · rw [h0] at hx; simp at hx
  subst had
  have hb := hW g hg
  have hc : ∀ i u, (vdrow x)[i]? = some u → W.cell? ⟨g, o + (q * 2 + i), none⟩ = some u := fun i u hu => by
    rw [World.cell?_of_block hb]; exact hrow q x hx i u hu
  refine ⟨g, o, c, hsl, hg, ?_, ?_⟩
  · have := hc 0 _ rfl; simpa [Nat.add_assoc] using this
  · have := hc 1 _ rfl; simpa [Nat.add_assoc] using this
theorem td_at {w W : World} {S : Nat → Prop} {v : Value} {xs : List TD} (h : RowsIn w S 5 tdrow v xs) (hW : ∀ b, S b → W.heap[b]? = w.heap[b]?) {q : Nat} {x : TD} (hx : xs[q]? = some x) :
    ∃ g o c, v = .slice (some ⟨g, o, none⟩) xs.length c ∧ S g ∧ W.cell? ⟨g, o + q * 5, none⟩ = some (.int .i64 x.id) ∧ W.cell? ⟨g, o + q * 5 + 1, none⟩ = some (.string (mkB x.service)) ∧ W.cell? ⟨g, o + q * 5 + 2, none⟩ = some (.string (mkB x.name)) ∧ W.cell? ⟨g, o + q * 5 + 3, none⟩ = some (.int .i64 x.inp) ∧ W.cell? ⟨g, o + q * 5 + 4, none⟩ = some (.int .i64 x.out) := by
  obtain ⟨ad, c, hsl, hcc, hrows⟩ := h
  rcases hrows with h0 | ⟨g, o, had, hg, hrow⟩
  · rw [h0] at hx; simp at hx
  subst had
  have hb := hW g hg
  have hc : ∀ i u, (tdrow x)[i]? = some u → W.cell? ⟨g, o + (q * 5 + i), none⟩ = some u := fun i u hu => by
    rw [World.cell?_of_block hb]; exact hrow q x hx i u hu
  refine ⟨g, o, c, hsl, hg, ?_, ?_, ?_, ?_, ?_⟩
  · have := hc 0 _ rfl; simpa [Nat.add_assoc] using this
  · have := hc 1 _ rfl; simpa [Nat.add_assoc] using this
  · have := hc 2 _ rfl; simpa [Nat.add_assoc] using this
  · have := hc 3 _ rfl; simpa [Nat.add_assoc] using this
  · have := hc 4 _ rfl; simpa [Nat.add_assoc] using this
end Go.Proofs.YteajlfgbmefncaaGreatDoor
namespace Go.Proofs.YteajlfgbmefncaaGreatDoor
set_option linter.unusedVariables false
open Go.ChangeShapes Go.WideShapes Go.ChangeAt Go.RowKit

theorem frz_at {w : World} {B : Nat} {cs : Array Value} {T : TypeId} (h : w.heap[B]? = some (.cells cs T (0, 0))) (i : Nat) : w.frozen? ⟨B, i, none⟩ = false := by simp [World.frozen?, h]
def Cells (w : World) (g o : Nat) (l : List Value) : Prop := ∀ (i : Nat) (u : Value), l[i]? = some u → w.cell? ⟨g, o + i, none⟩ = some u
theorem Cells.old {w w' : World} {g o : Nat} {l : List Value} (h : Cells w g o l) (hb : w'.heap[g]? = w.heap[g]?) : Cells w' g o l := fun i u hu => by rw [World.cell?_of_block hb]; exact h i u hu
/-- a slice's elements lie in a block of S -/
def SlIn {α : Type} (S : Nat → Prop) (k : Nat) (R : α → Nat → Nat → Prop) (v : Value) (xs : List α) : Prop :=
  ∃ ad c, v = .slice ad xs.length c ∧ xs.length ≤ c ∧ (xs = [] ∨ ∃ g o, ad = some ⟨g, o, none⟩ ∧ S g ∧ ∀ (j : Nat) (x : α), xs[j]? = some x → R x g (o + j * k))
theorem SlIn.imp {α : Type} {S S' : Nat → Prop} {k : Nat} {R R' : α → Nat → Nat → Prop} {v : Value} {xs : List α} (h : SlIn S k R v xs) (hS : ∀ b, S b → S' b) (hR : ∀ x g o, S g → R x g o → R' x g o) : SlIn S' k R' v xs := by
  obtain ⟨ad, c, hv, hc, h⟩ := h
  refine ⟨ad, c, hv, hc, h.imp id ?_⟩
  rintro ⟨g, o, ha, hg, h⟩
  exact ⟨g, o, ha, hS g hg, fun j x hj => hR x g _ hg (h j x hj)⟩
theorem SlIn.nil {α : Type} (S : Nat → Prop) (k : Nat) (R : α → Nat → Nat → Prop) (ad : Option Addr) (c : Nat) : SlIn S k R (.slice ad 0 c) ([] : List α) := ⟨ad, c, rfl, Nat.zero_le _, .inl rfl⟩
theorem SlIn.isSl {α : Type} {S : Nat → Prop} {k : Nat} {R : α → Nat → Nat → Prop} {v : Value} {xs : List α} (h : SlIn S k R v xs) : ∃ ad c, v = .slice ad xs.length c ∧ xs.length ≤ c := by
  obtain ⟨ad, c, hv, hc, _⟩ := h
  exact ⟨ad, c, hv, hc⟩
theorem SlIn.at {α : Type} {S : Nat → Prop} {k : Nat} {R : α → Nat → Nat → Prop} {v : Value} {xs : List α} (h : SlIn S k R v xs) {j : Nat} {x : α} (hj : xs[j]? = some x) : ∃ g o c, v = .slice (some ⟨g, o, none⟩) xs.length c ∧ S g ∧ R x g (o + j * k) := by
  obtain ⟨ad, c, hv, hc, h | ⟨g, o, ha, hg, h⟩⟩ := h
  · rw [h] at hj; simp at hj
  · exact ⟨g, o, c, by rw [hv, ha], hg, h j x hj⟩
/-- how a value lies in memory: its cells, how many, and whether what lies in it counts -/
structure Shp where
  row : Nd → Value → List Value
  k : Nat
  deep : Nd → Bool
def HeldG (s : Shp) (w : World) (S : Nat → Prop) : Nat → Value → List (Int × List Nd) → Prop
  | 0, v, fl => fl = [] ∧ ∃ ad c, v = .slice ad 0 c
  | f + 1, v, fl => SlIn S 2 (fun x g o => ∃ vs, Cells w g o [.int .i64 x.1, vs] ∧ SlIn S s.k (fun y g o => ∃ fs, Cells w g o (s.row y fs) ∧ (s.deep y = true → HeldG s w S f fs y.fields)) vs x.2) v fl
def ValsG (s : Shp) (w : World) (S : Nat → Prop) (f : Nat) (vs : Value) (ys : List Nd) : Prop := SlIn S s.k (fun y g o => ∃ fs, Cells w g o (s.row y fs) ∧ (s.deep y = true → HeldG s w S f fs y.fields)) vs ys
theorem HeldG.mv {s : Shp} {w w' : World} {S S' : Nat → Prop} (hb : ∀ b, S b → w'.heap[b]? = w.heap[b]?) (hS : ∀ b, S b → S' b) : ∀ {f : Nat} {v : Value} {fl : List (Int × List Nd)}, HeldG s w S f v fl → HeldG s w' S' f v fl
  | 0, v, fl, h => h
  | f + 1, v, fl, h => by
    refine SlIn.imp h hS fun x g o hg hx => ?_
    obtain ⟨vs, hc, hv⟩ := hx
    refine ⟨vs, hc.old (hb g hg), SlIn.imp hv hS fun y g o hg hy => ?_⟩
    obtain ⟨fs, hc, hf⟩ := hy
    exact ⟨fs, hc.old (hb g hg), fun hd => HeldG.mv hb hS (hf hd)⟩
theorem ValsG.mv {s : Shp} {w w' : World} {S S' : Nat → Prop} (hb : ∀ b, S b → w'.heap[b]? = w.heap[b]?) (hS : ∀ b, S b → S' b) {f : Nat} {v : Value} {ys : List Nd} (h : ValsG s w S f v ys) : ValsG s w' S' f v ys := by
  refine SlIn.imp h hS fun y g o hg hy => ?_
  obtain ⟨fs, hc, hf⟩ := hy
  exact ⟨fs, hc.old (hb g hg), fun hd => HeldG.mv hb hS (hf hd)⟩
theorem HeldG.up {s : Shp} {w : World} {S : Nat → Prop} : ∀ {f : Nat} {v : Value} {fl : List (Int × List Nd)}, HeldG s w S f v fl → HeldG s w S (f + 1) v fl
  | 0, v, fl, ⟨h, ad, c, hv⟩ => by subst h; rw [hv]; exact SlIn.nil _ _ _ ad c
  | f + 1, v, fl, h => by
    refine SlIn.imp h (fun _ h => h) fun x g o hg hx => ?_
    obtain ⟨vs, hc, hv⟩ := hx
    refine ⟨vs, hc, SlIn.imp hv (fun _ h => h) fun y g o hg hy => ?_⟩
    obtain ⟨fs, hc, hf⟩ := hy
    exact ⟨fs, hc, fun hd => HeldG.up (hf hd)⟩
theorem HeldG.nil (s : Shp) (w : World) (S : Nat → Prop) (f : Nat) (ad : Option Addr) (c : Nat) : HeldG s w S f (.slice ad 0 c) [] := by
  cases f with
  | zero => exact ⟨rfl, ad, c, rfl⟩
  | succ f => exact SlIn.nil _ _ _ ad c
theorem HeldG.isSl {s : Shp} {w : World} {S : Nat → Prop} {f : Nat} {v : Value} {fl : List (Int × List Nd)} (h : HeldG s w S f v fl) : ∃ ad c, v = .slice ad fl.length c := by
  cases f with
  | zero => obtain ⟨rfl, ad, c, h⟩ := h; exact ⟨ad, c, h⟩
  | succ f => obtain ⟨ad, c, h, _⟩ := SlIn.isSl h; exact ⟨ad, c, h⟩
/-- a field: its number, and its values -/
theorem HeldG.at {s : Shp} {w W : World} {S : Nat → Prop} {f : Nat} {v : Value} {fl : List (Int × List Nd)} (h : HeldG s w S f v fl) (hW : ∀ b, S b → W.heap[b]? = w.heap[b]?) {j : Nat} {x : Int × List Nd} (hj : fl[j]? = some x) :
    ∃ f' g o c va vc, f = f' + 1 ∧ v = .slice (some ⟨g, o, none⟩) fl.length c ∧ S g ∧ W.cell? ⟨g, o + j * 2, none⟩ = some (.int .i64 x.1) ∧ W.cell? ⟨g, o + j * 2 + 1, none⟩ = some (.slice va x.2.length vc) ∧ ValsG s w S f' (.slice va x.2.length vc) x.2 := by
  cases f with
  | zero => rw [h.1] at hj; simp at hj
  | succ f =>
    obtain ⟨g, o, c, hv, hg, vs, hc, hs⟩ := SlIn.at h hj
    have hcW := hc.old (hW g hg)
    obtain ⟨va, vc, rfl, _⟩ := SlIn.isSl hs
    refine ⟨f, g, o, c, va, vc, rfl, hv, hg, ?_, ?_, hs⟩
    · have := hcW 0 _ rfl; simpa using this
    · have := hcW 1 _ rfl; simpa [Nat.add_assoc] using this
theorem ValsG.at {s : Shp} {w : World} {S : Nat → Prop} {f : Nat} {v : Value} {ys : List Nd} (h : ValsG s w S f v ys) {j : Nat} {y : Nd} (hj : ys[j]? = some y) :
    ∃ g o c fs, v = .slice (some ⟨g, o, none⟩) ys.length c ∧ S g ∧ Cells w g (o + j * s.k) (s.row y fs) ∧ (s.deep y = true → HeldG s w S f fs y.fields) := by
  obtain ⟨g, o, c, hv, hg, fs, h1, h2⟩ := SlIn.at h hj
  exact ⟨g, o, c, fs, hv, hg, h1, h2⟩
/-- a node's cells -/
def nrow (y : Nd) (fs : Value) : List Value := [.int .i64 y.kind, .int .i64 y.n, .int .u64 y.u, .bool y.b, .string (mkB y.s), .int .i64 y.type, fs]
def crow (y : Nd) (fs : Value) : List Value := nrow (cn y) fs
def clS : Shp := ⟨fun y fs => crow y (if y.kind = 7 then fs else .slice none 0 0), 7, fun y => decide (y.kind = 7)⟩
/-- an interface's value -/
def ival (y : Nd) (fs : Value) : Value :=
  if y.kind = 1 then .iface 68 (.int .i64 y.n) else if y.kind = 2 then .iface 69 (.int .u64 y.u) else if y.kind = 3 then .iface 70 (.bool y.b)
  else if y.kind = 4 then .iface 71 (.string (mkB y.s)) else if y.kind = 5 then .iface 72 (.string (mkB y.s)) else if y.kind = 6 then .iface 73 (.int .i32 (IntKind.i32.wrap y.n))
  else if y.kind = 7 then .iface 76 (.agg #[.int .i64 y.type, fs, .string (mkB y.s)]) else .nilIface
def valS : Shp := ⟨fun y fs => [ival y fs], 1, fun y => decide (y.kind = 7)⟩
/-- a value, as it is handed on -/
def HeldV (w : World) (S : Nat → Prop) (f : Nat) (v : Value) (y : Nd) : Prop := ∃ fs, v = ival y fs ∧ (y.kind = 7 → HeldG valS w S f fs y.fields)
theorem HeldV.mv {w w' : World} {S S' : Nat → Prop} (hb : ∀ b, S b → w'.heap[b]? = w.heap[b]?) (hS : ∀ b, S b → S' b) {f : Nat} {v : Value} {y : Nd} (h : HeldV w S f v y) : HeldV w' S' f v y := by
  obtain ⟨fs, hv, h⟩ := h
  exact ⟨fs, hv, fun hk => HeldG.mv hb hS (h hk)⟩
/-- no list and no text is longer -/
def FitG (bs bf : Nat) : Nat → Nd → Prop
  | 0, x => x.s.length ≤ bs
  | f + 1, x => x.s.length ≤ bs ∧ x.fields.length ≤ bf ∧ ∀ p ∈ x.fields, p.2.length ≤ bf ∧ ∀ y ∈ p.2, FitG bs bf f y
theorem FitG.s {bs bf f : Nat} {x : Nd} (h : FitG bs bf f x) : x.s.length ≤ bs := by
  cases f with
  | zero => exact h
  | succ f => exact h.1
/-- blocks of the call's own, but for the one that grows -/
def FarV (w : World) (base : Nat) (v : Value) (b : Nat) : Prop := base ≤ b ∧ b < w.heap.size ∧ v.ownBlock ≠ some b
/-- a slice of the call's own that grows, whose elements lead to other blocks of its own -/
structure Gr {α : Type} (R : World → (Nat → Prop) → α → List Value → Prop) (w : World) (base : Nat) (T : TypeId) (k : Nat) (v : Value) (xs : List α) (rs : List (List Value)) : Prop where
  own : w.ownsRow base T k v xs.length (rs.flatMap id)
  len : rs.length = xs.length
  row : ∀ r ∈ rs, r.length = k
  kids : ∀ (j : Nat) (x : α) (r : List Value), xs[j]? = some x → rs[j]? = some r → R w (FarV w base v) x r
def Mvs {α : Type} (R : World → (Nat → Prop) → α → List Value → Prop) : Prop := ∀ (w w' : World) (S S' : Nat → Prop) (x : α) (r : List Value), R w S x r → (∀ b, S b → w'.heap[b]? = w.heap[b]?) → (∀ b, S b → S' b) → R w' S' x r
theorem Gr.nil {α : Type} (R : World → (Nat → Prop) → α → List Value → Prop) (w : World) (base : Nat) (T : TypeId) (k : Nat) : Gr R w base T k (.slice none 0 0) [] [] :=
  ⟨World.ownsRow_nil _ _ _ _, rfl, (fun r hr => by cases hr), fun j x r h => by simp at h⟩
theorem Gr.blk {α : Type} {R : World → (Nat → Prop) → α → List Value → Prop} {w : World} {base : Nat} {T : TypeId} {k : Nat} {v : Value} {xs : List α} {rs : List (List Value)} (h : Gr R w base T k v xs rs) : ∀ b, v.ownBlock = some b → base ≤ b ∧ b < w.heap.size := own_block h.own
/-- other memory has changed -/
theorem Gr.keep {α : Type} {R : World → (Nat → Prop) → α → List Value → Prop} (hR : Mvs R) {w w' : World} {base : Nat} {T : TypeId} {k : Nat} {v : Value} {xs : List α} {rs : List (List Value)} (h : Gr R w base T k v xs rs) (hb : ∀ b, base ≤ b → b < w.heap.size → w'.heap[b]? = w.heap[b]?) (hs : w.heap.size ≤ w'.heap.size) : Gr R w' base T k v xs rs :=
  ⟨own_keep h.own fun b hb' => hb b (h.blk b hb').1 (h.blk b hb').2, h.len, h.row, fun j x r h1 h2 => hR _ _ _ _ x r (h.kids j x r h1 h2) (fun b hF => hb b hF.1 hF.2.1) (fun b hF => ⟨hF.1, by have := hF.2.1; omega, hF.2.2⟩)⟩
theorem Gr.push {α : Type} {R : World → (Nat → Prop) → α → List Value → Prop} (hR : Mvs R) {w W : World} {base : Nat} {T : TypeId} {k : Nat} {v : Value} {xs : List α} {rs : List (List Value)} (h : Gr R w base T k v xs rs) {x : α} {r : List Value} (hr : r.length = k) (hx : R w (FarV w base v) x r) {g cap n : Nat} (hn : xs.length = n)
    (ho : W.ownsRow base T k (.slice (some ⟨g, 0, none⟩) (n + 1) cap) (n + 1) (rs.flatMap id ++ r)) (hg : w.grownBy W v.ownBlock) (hgg : v.ownBlock = some g ∨ g = w.heap.size) : Gr R W base T k (.slice (some ⟨g, 0, none⟩) (n + 1) cap) (xs ++ [x]) (rs ++ [r]) := by
  have hmv : ∀ (x : α) (r : List Value), R w (FarV w base v) x r → R W (FarV W base (.slice (some ⟨g, 0, none⟩) (n + 1) cap)) x r := fun x r hx => hR _ _ _ _ x r hx (fun b hF => hg.block b hF.2.1 (fun e => hF.2.2 e.symm)) (fun b hF => ⟨hF.1, by have := hF.2.1; have := hg.size; omega, fun e => by
    have e2 : g = b := by simpa [Value.ownBlock] using e
    rcases hgg with h1 | h1
    · exact hF.2.2 (by rw [h1, e2])
    · have := hF.2.1; omega⟩)
  refine ⟨?_, by simp [h.len], ?_, ?_⟩
  · rw [List.flatMap_append, List.length_append, hn]; simpa using ho
  · intro q hq
    rcases List.mem_append.1 hq with hq | hq
    · exact h.row q hq
    · have : q = r := by simpa using hq
      rw [this]; exact hr
  · intro j y q hy hq
    rcases Nat.lt_or_ge j xs.length with hl | hl
    · rw [List.getElem?_append_left hl] at hy
      rw [List.getElem?_append_left (by rw [h.len]; exact hl)] at hq
      exact hmv y q (h.kids j y q hy hq)
    · rw [List.getElem?_append_right hl] at hy
      rw [List.getElem?_append_right (by rw [h.len]; exact hl), h.len] at hq
      have hj : j - xs.length = 0 := by
        have := (List.getElem?_eq_some_iff.1 hy).1
        simpa using this
      rw [hj] at hy hq
      have e1 : x = y := by simpa using hy
      have e2 : r = q := by simpa using hq
      subst e1 e2
      exact hmv _ _ hx
theorem flatK : ∀ (rs : List (List Value)) (k j : Nat) (r : List Value) (i : Nat), (∀ r ∈ rs, r.length = k) → i < k → rs[j]? = some r → (rs.flatMap id)[j * k + i]? = r[i]?
  | [], k, j, r, i, h8, hi, h => by simp at h
  | a :: t, k, 0, r, i, h8, hi, h => by
    have e : a = r := by simpa using h
    subst e
    rw [List.flatMap_cons, Nat.zero_mul, Nat.zero_add, List.getElem?_append_left (by show i < (id a).length; rw [show (id a).length = k from h8 a (by simp)]; exact hi)]; rfl
  | a :: t, k, j + 1, r, i, h8, hi, h => by
    have ha : (id a).length = k := h8 a (by simp)
    rw [List.flatMap_cons, List.getElem?_append_right (by rw [ha, Nat.succ_mul]; omega), ha, show (j + 1) * k + i - k = j * k + i by rw [Nat.succ_mul]; omega]
    exact flatK t k j r i (fun r hr => h8 r (List.mem_cons_of_mem _ hr)) hi (by simpa using h)
/-- so it is a slice whose elements lie in memory -/
theorem Gr.held {α : Type} {R : World → (Nat → Prop) → α → List Value → Prop} {w : World} {base : Nat} {T : TypeId} {k : Nat} {v : Value} {xs : List α} {rs : List (List Value)} (h : Gr R w base T k v xs rs) (S : Nat → Prop) (hS : ∀ b, v.ownBlock = some b → S b) : SlIn S k (fun x g o => ∃ r, Cells w g o r ∧ R w (FarV w base v) x r) v xs := by
  have hk := h.kids
  have hrow := h.row
  have hlen := h.len
  obtain ⟨hl, ⟨rfl, h0⟩ | ⟨g, cap, cur, rfl, hg, hh, h3, h4, h5, h6⟩⟩ := h.own
  · exact ⟨none, 0, by rw [h0], by omega, .inl (List.eq_nil_of_length_eq_zero h0)⟩
  · refine ⟨_, cap, rfl, h3, .inr ⟨g, 0, rfl, hS g rfl, fun j x hj => ?_⟩⟩
    have hjl := (List.getElem?_eq_some_iff.1 hj).1
    obtain ⟨r, hr⟩ : ∃ r, rs[j]? = some r := ⟨_, List.getElem?_eq_getElem (by rw [hlen]; exact hjl)⟩
    refine ⟨r, fun i u hu => ?_, hk j x r hj hr⟩
    have hrl := hrow r (List.mem_of_getElem? hr)
    have hi : i < k := by
      have := (List.getElem?_eq_some_iff.1 hu).1
      rw [hrl] at this; exact this
    have e := flatK rs k j r i hrow hi hr
    have hb : j * k + i < xs.length * k := by
      have : (j + 1) * k ≤ xs.length * k := Nat.mul_le_mul_right k hjl
      rw [Nat.succ_mul] at this
      omega
    rw [← h6, List.getElem?_take, if_pos (by omega), hu] at e
    simp only [World.cell?, hh]
    rw [Nat.zero_add]
    simpa using e
end Go.Proofs.YteajlfgbmefncaaGreatDoor
namespace Go.Proofs.YteajlfgbmefncaaGreatDoor
set_option linter.unusedVariables false
open Go.ChangeShapes Go.WideShapes Go.ChangeAt Go.RowKit

set_option maxHeartbeats 4000000 in
theorem ownT_any (k : Int) (w : World) : Calls Tryz.prog 104 #[.int .i64 k] w fun e w' => e = .returned (.int .i64 (ownT k)) ∧ w' = w := by
  unfold ownT
  by_cases h1 : k = 1
  · subst h1; go_enter Tryz.func104, Tryz.ntmps104
    go_wp2_with fail
    go_ret
    exact ⟨rfl, rfl⟩
  by_cases h2 : k = 2
  · subst h2; go_enter Tryz.func104, Tryz.ntmps104
    go_wp2_with fail
    go_ret
    exact ⟨rfl, rfl⟩
  by_cases h3 : k = 3
  · subst h3; go_enter Tryz.func104, Tryz.ntmps104
    go_wp2_with fail
    go_ret
    exact ⟨rfl, rfl⟩
  by_cases h4 : k = 4
  · subst h4; go_enter Tryz.func104, Tryz.ntmps104
    go_wp2_with fail
    go_ret
    exact ⟨rfl, rfl⟩
  by_cases h9 : k = 9
  · subst h9; go_enter Tryz.func104, Tryz.ntmps104
    go_wp2_with fail
    go_ret
    exact ⟨rfl, rfl⟩
  by_cases h7 : k = 7
  · subst h7; go_enter Tryz.func104, Tryz.ntmps104
    go_wp2_with fail
    go_ret
    exact ⟨rfl, rfl⟩
  by_cases h8 : k = 8
  · subst h8; go_enter Tryz.func104, Tryz.ntmps104
    go_wp2_with fail
    go_ret
    exact ⟨rfl, rfl⟩
  go_enter Tryz.func104, Tryz.ntmps104
  go_wp2_with fail
  go_ret
  exact ⟨rfl, rfl⟩
set_option maxHeartbeats 4000000 in
theorem wireT_any (k : Int) (w : World) : Calls Tryz.prog 66 #[.int .i64 k] w fun e w' => e = .returned (.int .i64 (wireT k)) ∧ w' = w := by
  unfold wireT
  by_cases h7 : k = 7
  · subst h7; go_enter Tryz.func66, Tryz.ntmps66
    go_wp2_with fail
    go_ret
    exact ⟨rfl, rfl⟩
  by_cases h8 : k = 8
  · subst h8; go_enter Tryz.func66, Tryz.ntmps66
    go_wp2_with fail
    go_ret
    exact ⟨rfl, rfl⟩
  by_cases h5 : k = 5
  · subst h5; go_enter Tryz.func66, Tryz.ntmps66
    go_wp2_with fail
    go_ret
    exact ⟨rfl, rfl⟩
  by_cases h6 : k = 6
  · subst h6; go_enter Tryz.func66, Tryz.ntmps66
    go_wp2_with fail
    go_ret
    exact ⟨rfl, rfl⟩
  by_cases h10 : k = 10
  · subst h10; go_enter Tryz.func66, Tryz.ntmps66
    go_wp2_with fail
    go_ret
    exact ⟨rfl, rfl⟩
  go_enter Tryz.func66, Tryz.ntmps66
  go_wp2_with fail
  go_ret
  exact ⟨rfl, rfl⟩
set_option maxHeartbeats 4000000 in
theorem packed_any (k : Int) (w : World) : Calls Tryz.prog 67 #[.int .i64 k] w fun e w' => e = .returned (.bool (decide (wireT k ≠ 2))) ∧ w' = w := by
  have h := wireT_any k w
  obtain ⟨t, ht⟩ : ∃ t, wireT k = t := ⟨_, rfl⟩
  rw [ht] at h ⊢
  clear ht
  by_cases ht : t = 2
  · subst ht
    go_enter Tryz.func67, Tryz.ntmps67
    go_wp2_with fail
    refine h.mono ?_
    rintro e W ⟨rfl, hW⟩
    have hW := hW.symm
    subst hW
    go_wp2_with fail
    go_ret
    exact ⟨rfl, rfl⟩
  · have hd : decide (t ≠ 2) = true := decide_eq_true ht
    rw [hd]
    clear hd
    go_enter Tryz.func67, Tryz.ntmps67
    go_wp2_with fail
    refine h.mono ?_
    rintro e W ⟨rfl, hW⟩
    have hW := hW.symm
    subst hW
    go_wp2_with fail
    go_ret
    exact ⟨by show Ending.returned (.bool (t != 2)) = _; rw [show (t != 2) = true from by simp [ht]], rfl⟩
set_option maxHeartbeats 4000000 in
theorem kindOf_any (k : Int) (w : World) : Calls Tryz.prog 95 #[.int .i64 k] w fun e w' => e = .returned (.int .i64 (kindOf k)) ∧ w' = w := by
  unfold kindOf
  by_cases hs : k = 1 ∨ k = 2 ∨ k = 3 ∨ k = 4 ∨ k = 5 ∨ k = 6 ∨ k = 7 ∨ k = 8 ∨ k = 9
  · rcases hs with rfl | rfl | rfl | rfl | rfl | rfl | rfl | rfl | rfl <;>
    · go_enter Tryz.func95, Tryz.ntmps95
      go_wp2_with fail
      go_ret
      exact ⟨rfl, rfl⟩
  · have h1 : ¬ k = 1 := by omega
    have h2 : ¬ k = 2 := by omega
    have h3 : ¬ k = 3 := by omega
    have h4 : ¬ k = 4 := by omega
    have h5 : ¬ k = 5 := by omega
    have h6 : ¬ k = 6 := by omega
    have h7 : ¬ k = 7 := by omega
    have h8 : ¬ k = 8 := by omega
    have h9 : ¬ k = 9 := by omega
    clear hs
    go_enter Tryz.func95, Tryz.ntmps95
    go_wp2_with fail
    go_ret
    exact ⟨rfl, rfl⟩
end Go.Proofs.YteajlfgbmefncaaGreatDoor
namespace Go.Proofs.YteajlfgbmefncaaGreatDoor
set_option linter.unusedVariables false

/-- what a field without a value is read as: the program's, and the document's of a clean node -/
def defP (y : Nd) : Bool := if y.kind = 1 then decide (y.n = 0) else if y.kind = 2 then decide (y.u = 0) else if y.kind = 3 then !y.b else if y.kind = 4 ∨ y.kind = 5 then decide (y.s = []) else if y.kind = 6 then decide (IntKind.i32.wrap y.n = 0) else false
def zeroR (z : Nd) : Bool := decide (z.kind ≠ 7) && (decide (z.n = 0) && (decide (z.u = 0) && (!z.b && decide (z.s = []))))
theorem zero_eq {y : Nd} (h1 : 1 ≤ y.kind) (h2 : y.kind ≤ 7) : zeroR (cn y) = defP y := by
  obtain ⟨kind, n, u, b, s, type, fields⟩ := y
  simp only at h1 h2
  rcases (by omega : kind = 1 ∨ kind = 2 ∨ kind = 3 ∨ kind = 4 ∨ kind = 5 ∨ kind = 6 ∨ kind = 7) with rfl | rfl | rfl | rfl | rfl | rfl | rfl <;>
    simp [zeroR, cn, defP]
def fieldsOf (ms : List MD) (t : Int) : List FD := match ms[t.toNat]? with
  | none => []
  | some m => m.fields
/-- does a field stay? -/
def keepB (fs : List FD) (p : Int × List Nd) : Bool := (match firstF fs p.1 with
  | none => false
  | some f => f.rep) || !(match p.2[0]? with
  | none => true
  | some y => defP y)
def keptL (ms : List MD) (g : Nd → Nd) (t : Int) (l : List (Int × List Nd)) : List (Int × List Nd) := (l.filter (keepB (fieldsOf ms t))).map fun p => (p.1, p.2.map g)
def normN (ms : List MD) : Nat → Nd → Nd
  | 0, x => x
  | f + 1, x => if x.kind = 7 then ⟨x.kind, x.n, x.u, x.b, x.s, x.type, keptL ms (normN ms f) x.type x.fields⟩ else x
/-- what lies in a value, made normal -/
def normF (ms : List MD) : Nat → Nd → Nd
  | 0 => id
  | f + 1 => normN ms f
theorem keptL_step {ms : List MD} {g : Nd → Nd} {t : Int} {l : List (Int × List Nd)} {k : Nat} {p : Int × List Nd} (h : l[k]? = some p) : keptL ms g t (l.take (k + 1)) = keptL ms g t (l.take k) ++ (if keepB (fieldsOf ms t) p = true then [(p.1, p.2.map g)] else []) := by
  unfold keptL
  rw [show l.take (k + 1) = l.take k ++ [p] from take_snoc h, List.filter_append, List.map_append]
  congr 1
  cases hk : keepB (fieldsOf ms t) p <;> simp [hk]
/-- a value that fits, as far as its normal value needs it -/
def GoodT (ms : List MD) : Nat → Nd → Prop
  | 0, x => 0 ≤ x.type ∧ x.type < (ms.length : Int)
  | f + 1, x => (0 ≤ x.type ∧ x.type < (ms.length : Int)) ∧ ∀ p ∈ x.fields, (∃ (i : Nat) (fd : FD), isFirst (fieldsOf ms x.type) p.1 i fd) ∧ p.2 ≠ [] ∧ ∀ y ∈ p.2, (1 ≤ y.kind ∧ y.kind ≤ 7) ∧ (y.kind = 7 → GoodT ms f y)
theorem isFirst_of : ∀ {fs : List FD} {num : Int} {f : FD}, firstF fs num = some f → ∃ i, isFirst fs num i f
  | x :: t, num, f, h => by
    rw [firstF] at h
    split at h
    · rename_i hx
      cases h
      exact ⟨0, rfl, hx, fun j g hj => absurd hj (Nat.not_lt_zero _)⟩
    · rename_i hx
      obtain ⟨i, h1, h2, h3⟩ := isFirst_of h
      refine ⟨i + 1, by simpa using h1, h2, fun j g hj hg => ?_⟩
      cases j with
      | zero => have e : x = g := by simpa using hg
                rw [← e]; exact hx
      | succ j => exact h3 j g (by omega) (by simpa using hg)
theorem val_kind {rec : Int → Nd → Bool} {f : FD} {y : Nd} (hr : ∀ t y, rec t y = true → y.kind = 7) (h : valP rec f y = true) : 1 ≤ y.kind ∧ y.kind ≤ 7 := by
  unfold valP at h
  split at h
  · have := hr _ _ h; omega
  · unfold kindB at h
    repeat' split at h
    all_goals first
      | (have := of_decide_eq_true h; omega)
      | (rw [Bool.and_eq_true] at h; have := of_decide_eq_true h.1; omega)
      | cases h
theorem good_of_fit {ms : List MD} (hk : ∀ m ∈ ms, ∀ x ∈ m.fields, x.kind = 10 → 0 ≤ x.type ∧ x.type < (ms.length : Int)) : ∀ (f : Nat) (dep t : Int) (x : Nd), 0 ≤ t → t < (ms.length : Int) → fitP ms f dep t x = true → x.kind = 7 ∧ GoodT ms f x := by
  intro f
  induction f with
  | zero =>
    intro dep t x h0 h1 h
    rw [fitP_eq, topP, Bool.and_eq_true, decide_eq_true_eq] at h
    obtain ⟨⟨hk7, ht, _⟩, _⟩ := h
    exact ⟨hk7, by rw [ht]; exact h0, by rw [ht]; exact h1⟩
  | succ f ih =>
    intro dep t x h0 h1 h
    rw [fitP_eq, topP, Bool.and_eq_true, decide_eq_true_eq] at h
    obtain ⟨⟨hk7, ht, _⟩, hb⟩ := h
    refine ⟨hk7, ⟨by rw [ht]; exact h0, by rw [ht]; exact h1⟩, fun p hp => ?_⟩
    unfold fieldsOf
    rw [ht]
    cases hm : ms[t.toNat]? with
    | none => rw [hm] at hb; cases hb
    | some m =>
      rw [hm] at hb
      simp only at hb
      unfold bodyP at hb
      rw [Bool.and_eq_true] at hb
      obtain ⟨j, hj⟩ := List.getElem?_of_mem hp
      have h2 := allA_iff.1 hb.1 j p hj
      rw [Bool.and_eq_true] at h2
      have h3 := h2.2
      unfold fldP at h3
      cases hf : firstF m.fields p.1 with
      | none => rw [hf] at h3; cases h3
      | some fd =>
        rw [hf] at h3
        simp only [Bool.and_eq_true] at h3
        obtain ⟨h4, _, h5⟩ := h3
        refine ⟨?_, ?_, fun y hy => ?_⟩
        · obtain ⟨i, hi⟩ := isFirst_of hf
          exact ⟨i, fd, hi⟩
        · intro e; rw [e] at h4; cases h4
        · obtain ⟨a, ha⟩ := List.getElem?_of_mem hy
          have h6 := allA_iff.1 h5 a y ha
          have hr : ∀ t y, recP ms dep (f + 1) t y = true → y.kind = 7 := fun t y h => by
            have h' : fitP ms f (dep + 1) t y = true := h
            rw [fitP_eq, topP, Bool.and_eq_true, decide_eq_true_eq] at h'
            exact h'.1.1
          refine ⟨val_kind hr h6, fun hy7 => ?_⟩
          unfold valP at h6
          split at h6
          · rename_i h10
            obtain ⟨q0, q1⟩ := hk m (List.mem_of_getElem? hm) fd (firstF_some hf).1 h10
            exact (ih (dep + 1) fd.type y q0 q1 h6).2
          · unfold kindB at h6
            rw [hy7] at h6
            repeat' split at h6
            all_goals simp at h6
end Go.Proofs.YteajlfgbmefncaaGreatDoor
namespace Go.Proofs.YteajlfgbmefncaaGreatDoor
set_option linter.unusedVariables false

/-- the numbers of a tree are such as a machine has -/
def Rg1 (x : Nd) : Prop := (-9223372036854775808 ≤ x.n ∧ x.n ≤ 9223372036854775807) ∧ 0 ≤ x.u ∧ x.u ≤ 18446744073709551615
def RngG : Nat → Nd → Prop
  | 0, x => Rg1 x
  | f + 1, x => Rg1 x ∧ ∀ p ∈ x.fields, ∀ y ∈ p.2, RngG f y
theorem RngG.one {f : Nat} {x : Nd} (h : RngG f x) : Rg1 x := by
  cases f with
  | zero => exact h
  | succ f => exact h.1
/-- how much a tree weighs, and how many bytes it may have -/
def sumL {α : Type} (g : α → Nat) : List α → Nat
  | [] => 0
  | a :: l => g a + sumL g l
theorem sumL_append {α : Type} (g : α → Nat) (l m : List α) : sumL g (l ++ m) = sumL g l + sumL g m := by
  induction l with
  | nil => simp [sumL]
  | cons a l ih => rw [List.cons_append, sumL, sumL, ih]; omega
theorem sumL_le {α : Type} {g h : α → Nat} {l : List α} (H : ∀ a ∈ l, g a ≤ h a) : sumL g l ≤ sumL h l := by
  induction l with
  | nil => exact Nat.le_refl _
  | cons a l ih =>
    have h1 := H a List.mem_cons_self
    have h2 := ih fun b hb => H b (List.mem_cons_of_mem _ hb)
    rw [sumL, sumL]; omega
theorem sumL_mem {α : Type} {g : α → Nat} {l : List α} {a : α} (h : a ∈ l) : g a ≤ sumL g l := by
  induction l with
  | nil => cases h
  | cons b l ih =>
    rw [sumL]
    rcases List.mem_cons.1 h with rfl | h
    · omega
    · have := ih h; omega
theorem sumL_map {α β : Type} (g : β → Nat) (h : α → β) (l : List α) : sumL g (l.map h) = sumL (fun a => g (h a)) l := by
  induction l with
  | nil => rfl
  | cons a l ih => rw [List.map_cons, sumL, sumL, ih]
theorem sumL_filter {α : Type} (g : α → Nat) (p : α → Bool) (l : List α) : sumL g (l.filter p) ≤ sumL g l := by
  induction l with
  | nil => exact Nat.le_refl _
  | cons a l ih =>
    rw [List.filter_cons]
    split
    · rw [sumL, sumL]; omega
    · rw [sumL]; omega
theorem flatLen {α β : Type} (g : α → List β) (l : List α) : (l.flatMap g).length = sumL (fun a => (g a).length) l := by
  induction l with
  | nil => rfl
  | cons a l ih => rw [List.flatMap_cons, List.length_append, ih, sumL]
end Go.Proofs.YteajlfgbmefncaaGreatDoor
namespace Go.Proofs.YteajlfgbmefncaaGreatDoor
set_option linter.unusedVariables false
open Go.ChangeShapes Go.WideShapes Go.ChangeAt Go.RowKit

/-- the first k bytes of a number, the lowest first -/
def lob (n : Int) : Nat → List Int
  | 0 => []
  | k + 1 => lob n k ++ [n / 2 ^ (8 * k) % 256]
end Go.Proofs.YteajlfgbmefncaaGreatDoor
namespace Go.Proofs.YteajlfgbmefncaaGreatDoor
set_option linter.unusedVariables false

/-- the bytes of a field -/
def fbytes (num ty n : Int) (d : List Int) : List Int :=
  vint (8 * num + ty).toNat ++ (if ty = 0 then vint n.toNat else if ty = 1 then lob n 8 else if ty = 5 then lob n 4 else vint d.length ++ d)
end Go.Proofs.YteajlfgbmefncaaGreatDoor
