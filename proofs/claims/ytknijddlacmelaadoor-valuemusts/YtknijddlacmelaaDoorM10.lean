/-
  Values and nodes in memory. Nothing is proved of the program here.
  How much a value's tree weighs, and the range of its numbers. Nothing is proved of the program here.
-/
import Derived.Test.YtknijddlacmelaaDoorM6
import Derived.Test.YtknijddlacmelaaDoorM9
import Derived.Test.YtknijddlacmelaaDoorM8
namespace Go.Proofs.YtknijddlacmelaaDoor
set_option linter.unusedVariables false
open Go.ChangeShapes Go.WideShapes Go.ChangeAt Go.RowKit

theorem frz_at {w : World} {B : Nat} {cs : Array Value} {T : TypeId} (h : w.heap[B]? = some (.cells cs T (0, 0))) (i : Nat) : w.frozen? ⟨B, i, none⟩ = false := by simp [World.frozen?, h]
def Cells (w : World) (g o : Nat) (l : List Value) : Prop := ∀ (i : Nat) (u : Value), l[i]? = some u → w.cell? ⟨g, o + i, none⟩ = some u
theorem Cells.old {w w' : World} {g o : Nat} {l : List Value} (h : Cells w g o l) (hb : w'.heap[g]? = w.heap[g]?) : Cells w' g o l := fun i u hu => by rw [World.cell?_of_block hb]; exact h i u hu
/-- a slice's elements lie in a block of S -/
def SlIn {α : Type} (S : Nat → Prop) (k : Nat) (R : α → Nat → Nat → Prop) (v : Value) (xs : List α) : Prop :=
  ∃ ad c, v = .slice ad xs.length c ∧ xs.length ≤ c ∧ (xs = [] ∨ ∃ g o, ad = some ⟨g, o, none⟩ ∧ S g ∧ ∀ (j : Nat) (x : α), xs[j]? = some x → R x g (o + j * k))
theorem SlIn.imp {α : Type} {S S' : Nat → Prop} {k : Nat} {R R' : α → Nat → Nat → Prop} {v : Value} {xs : List α} (h : SlIn S k R v xs) (hS : ∀ b, S b → S' b) (hR : ∀ x g o, S g → R x g o → R' x g o) : SlIn S' k R' v xs := by
  obtain ⟨ad, c, hv, hc, h⟩ := h
  refine ⟨ad, c, hv, hc, h.imp id ?_⟩
  rintro ⟨g, o, ha, hg, h⟩
  exact ⟨g, o, ha, hS g hg, fun j x hj => hR x g _ hg (h j x hj)⟩
theorem SlIn.nil {α : Type} (S : Nat → Prop) (k : Nat) (R : α → Nat → Nat → Prop) (ad : Option Addr) (c : Nat) : SlIn S k R (.slice ad 0 c) ([] : List α) := ⟨ad, c, rfl, Nat.zero_le _, .inl rfl⟩
theorem SlIn.isSl {α : Type} {S : Nat → Prop} {k : Nat} {R : α → Nat → Nat → Prop} {v : Value} {xs : List α} (h : SlIn S k R v xs) : ∃ ad c, v = .slice ad xs.length c ∧ xs.length ≤ c := by
  obtain ⟨ad, c, hv, hc, _⟩ := h
  exact ⟨ad, c, hv, hc⟩
theorem SlIn.at {α : Type} {S : Nat → Prop} {k : Nat} {R : α → Nat → Nat → Prop} {v : Value} {xs : List α} (h : SlIn S k R v xs) {j : Nat} {x : α} (hj : xs[j]? = some x) : ∃ g o c, v = .slice (some ⟨g, o, none⟩) xs.length c ∧ S g ∧ R x g (o + j * k) := by
  obtain ⟨ad, c, hv, hc, h | ⟨g, o, ha, hg, h⟩⟩ := h
  · rw [h] at hj; simp at hj
  · exact ⟨g, o, c, by rw [hv, ha], hg, h j x hj⟩
/-- how a value lies in memory: its cells, how many, and whether what lies in it counts -/
structure Shp where
  row : Nd → Value → List Value
  k : Nat
  deep : Nd → Bool
def HeldG (s : Shp) (w : World) (S : Nat → Prop) : Nat → Value → List (Int × List Nd) → Prop
  | 0, v, fl => fl = [] ∧ ∃ ad c, v = .slice ad 0 c
  | f + 1, v, fl => SlIn S 2 (fun x g o => ∃ vs, Cells w g o [.int .i64 x.1, vs] ∧ SlIn S s.k (fun y g o => ∃ fs, Cells w g o (s.row y fs) ∧ (s.deep y = true → HeldG s w S f fs y.fields)) vs x.2) v fl
def ValsG (s : Shp) (w : World) (S : Nat → Prop) (f : Nat) (vs : Value) (ys : List Nd) : Prop := SlIn S s.k (fun y g o => ∃ fs, Cells w g o (s.row y fs) ∧ (s.deep y = true → HeldG s w S f fs y.fields)) vs ys
theorem HeldG.mv {s : Shp} {w w' : World} {S S' : Nat → Prop} (hb : ∀ b, S b → w'.heap[b]? = w.heap[b]?) (hS : ∀ b, S b → S' b) : ∀ {f : Nat} {v : Value} {fl : List (Int × List Nd)}, HeldG s w S f v fl → HeldG s w' S' f v fl
  | 0, v, fl, h => h
  | f + 1, v, fl, h => by
    refine SlIn.imp h hS fun x g o hg hx => ?_
    obtain ⟨vs, hc, hv⟩ := hx
    refine ⟨vs, hc.old (hb g hg), SlIn.imp hv hS fun y g o hg hy => ?_⟩
    obtain ⟨fs, hc, hf⟩ := hy
    exact ⟨fs, hc.old (hb g hg), fun hd => HeldG.mv hb hS (hf hd)⟩
theorem ValsG.mv {s : Shp} {w w' : World} {S S' : Nat → Prop} (hb : ∀ b, S b → w'.heap[b]? = w.heap[b]?) (hS : ∀ b, S b → S' b) {f : Nat} {v : Value} {ys : List Nd} (h : ValsG s w S f v ys) : ValsG s w' S' f v ys := by
  refine SlIn.imp h hS fun y g o hg hy => ?_
  obtain ⟨fs, hc, hf⟩ := hy
  exact ⟨fs, hc.old (hb g hg), fun hd => HeldG.mv hb hS (hf hd)⟩
theorem HeldG.up {s : Shp} {w : World} {S : Nat → Prop} : ∀ {f : Nat} {v : Value} {fl : List (Int × List Nd)}, HeldG s w S f v fl → HeldG s w S (f + 1) v fl
  | 0, v, fl, ⟨h, ad, c, hv⟩ => by subst h; rw [hv]; exact SlIn.nil _ _ _ ad c
  | f + 1, v, fl, h => by
    refine SlIn.imp h (fun _ h => h) fun x g o hg hx => ?_
    obtain ⟨vs, hc, hv⟩ := hx
    refine ⟨vs, hc, SlIn.imp hv (fun _ h => h) fun y g o hg hy => ?_⟩
    obtain ⟨fs, hc, hf⟩ := hy
    exact ⟨fs, hc, fun hd => HeldG.up (hf hd)⟩
theorem HeldG.upTo {s : Shp} {w : World} {S : Nat → Prop} {f g : Nat} (hfg : f ≤ g) {v : Value} {fl : List (Int × List Nd)} (h : HeldG s w S f v fl) : HeldG s w S g v fl := by
  obtain ⟨k, rfl⟩ : ∃ k, g = f + k := ⟨g - f, by omega⟩
  clear hfg
  induction k with
  | zero => exact h
  | succ k ih => exact ih.up
theorem HeldG.nil (s : Shp) (w : World) (S : Nat → Prop) (f : Nat) (ad : Option Addr) (c : Nat) : HeldG s w S f (.slice ad 0 c) [] := by
  cases f with
  | zero => exact ⟨rfl, ad, c, rfl⟩
  | succ f => exact SlIn.nil _ _ _ ad c
theorem HeldG.isSl {s : Shp} {w : World} {S : Nat → Prop} {f : Nat} {v : Value} {fl : List (Int × List Nd)} (h : HeldG s w S f v fl) : ∃ ad c, v = .slice ad fl.length c := by
  cases f with
  | zero => obtain ⟨rfl, ad, c, h⟩ := h; exact ⟨ad, c, h⟩
  | succ f => obtain ⟨ad, c, h, _⟩ := SlIn.isSl h; exact ⟨ad, c, h⟩
/-- a field: its number, and its values -/
theorem HeldG.at {s : Shp} {w W : World} {S : Nat → Prop} {f : Nat} {v : Value} {fl : List (Int × List Nd)} (h : HeldG s w S f v fl) (hW : ∀ b, S b → W.heap[b]? = w.heap[b]?) {j : Nat} {x : Int × List Nd} (hj : fl[j]? = some x) :
    ∃ f' g o c va vc, f = f' + 1 ∧ v = .slice (some ⟨g, o, none⟩) fl.length c ∧ S g ∧ W.cell? ⟨g, o + j * 2, none⟩ = some (.int .i64 x.1) ∧ W.cell? ⟨g, o + j * 2 + 1, none⟩ = some (.slice va x.2.length vc) ∧ ValsG s w S f' (.slice va x.2.length vc) x.2 := by
  cases f with
  | zero => rw [h.1] at hj; simp at hj
  | succ f =>
    obtain ⟨g, o, c, hv, hg, vs, hc, hs⟩ := SlIn.at h hj
    have hcW := hc.old (hW g hg)
    obtain ⟨va, vc, rfl, _⟩ := SlIn.isSl hs
    refine ⟨f, g, o, c, va, vc, rfl, hv, hg, ?_, ?_, hs⟩
    · have := hcW 0 _ rfl; simpa using this
    · have := hcW 1 _ rfl; simpa [Nat.add_assoc] using this
theorem ValsG.at {s : Shp} {w : World} {S : Nat → Prop} {f : Nat} {v : Value} {ys : List Nd} (h : ValsG s w S f v ys) {j : Nat} {y : Nd} (hj : ys[j]? = some y) :
    ∃ g o c fs, v = .slice (some ⟨g, o, none⟩) ys.length c ∧ S g ∧ Cells w g (o + j * s.k) (s.row y fs) ∧ (s.deep y = true → HeldG s w S f fs y.fields) := by
  obtain ⟨g, o, c, hv, hg, fs, h1, h2⟩ := SlIn.at h hj
  exact ⟨g, o, c, fs, hv, hg, h1, h2⟩
/-- a node's cells -/
def nrow (y : Nd) (fs : Value) : List Value := [.int .i64 y.kind, .int .i64 y.n, .int .u64 y.u, .bool y.b, .string (mkB y.s), .int .i64 y.type, fs]
def rawS : Shp := ⟨nrow, 7, fun _ => true⟩
def crow (y : Nd) (fs : Value) : List Value := nrow (cn y) fs
def clS : Shp := ⟨fun y fs => crow y (if y.kind = 7 then fs else .slice none 0 0), 7, fun y => decide (y.kind = 7)⟩
/-- an interface's value -/
def ival (y : Nd) (fs : Value) : Value :=
  if y.kind = 1 then .iface 58 (.int .i64 y.n) else if y.kind = 2 then .iface 54 (.int .u64 y.u) else if y.kind = 3 then .iface 59 (.bool y.b)
  else if y.kind = 4 then .iface 60 (.string (mkB y.s)) else if y.kind = 5 then .iface 61 (.string (mkB y.s)) else if y.kind = 6 then .iface 62 (.int .i32 (IntKind.i32.wrap y.n))
  else if y.kind = 7 then .iface 30 (.agg #[.int .i64 y.type, fs, .string (mkB y.s)]) else .nilIface
def valS : Shp := ⟨fun y fs => [ival y fs], 1, fun y => decide (y.kind = 7)⟩
/-- a value, as it is handed on -/
def HeldV (w : World) (S : Nat → Prop) (f : Nat) (v : Value) (y : Nd) : Prop := ∃ fs, v = ival y fs ∧ (y.kind = 7 → HeldG valS w S f fs y.fields)
theorem HeldV.mv {w w' : World} {S S' : Nat → Prop} (hb : ∀ b, S b → w'.heap[b]? = w.heap[b]?) (hS : ∀ b, S b → S' b) {f : Nat} {v : Value} {y : Nd} (h : HeldV w S f v y) : HeldV w' S' f v y := by
  obtain ⟨fs, hv, h⟩ := h
  exact ⟨fs, hv, fun hk => HeldG.mv hb hS (h hk)⟩
/-- no list and no text is longer -/
def FitG (bs bf : Nat) : Nat → Nd → Prop
  | 0, x => x.s.length ≤ bs
  | f + 1, x => x.s.length ≤ bs ∧ x.fields.length ≤ bf ∧ ∀ p ∈ x.fields, p.2.length ≤ bf ∧ ∀ y ∈ p.2, FitG bs bf f y
theorem FitG.s {bs bf f : Nat} {x : Nd} (h : FitG bs bf f x) : x.s.length ≤ bs := by
  cases f with
  | zero => exact h
  | succ f => exact h.1
/-- blocks of the call's own, but for the one that grows -/
def FarV (w : World) (base : Nat) (v : Value) (b : Nat) : Prop := base ≤ b ∧ b < w.heap.size ∧ v.ownBlock ≠ some b
/-- a slice of the call's own that grows, whose elements lead to other blocks of its own -/
structure Gr {α : Type} (R : World → (Nat → Prop) → α → List Value → Prop) (w : World) (base : Nat) (T : TypeId) (k : Nat) (v : Value) (xs : List α) (rs : List (List Value)) : Prop where
  own : w.ownsRow base T k v xs.length (rs.flatMap id)
  len : rs.length = xs.length
  row : ∀ r ∈ rs, r.length = k
  kids : ∀ (j : Nat) (x : α) (r : List Value), xs[j]? = some x → rs[j]? = some r → R w (FarV w base v) x r
def Mvs {α : Type} (R : World → (Nat → Prop) → α → List Value → Prop) : Prop := ∀ (w w' : World) (S S' : Nat → Prop) (x : α) (r : List Value), R w S x r → (∀ b, S b → w'.heap[b]? = w.heap[b]?) → (∀ b, S b → S' b) → R w' S' x r
theorem Gr.nil {α : Type} (R : World → (Nat → Prop) → α → List Value → Prop) (w : World) (base : Nat) (T : TypeId) (k : Nat) : Gr R w base T k (.slice none 0 0) [] [] :=
  ⟨World.ownsRow_nil _ _ _ _, rfl, (fun r hr => by cases hr), fun j x r h => by simp at h⟩
theorem Gr.blk {α : Type} {R : World → (Nat → Prop) → α → List Value → Prop} {w : World} {base : Nat} {T : TypeId} {k : Nat} {v : Value} {xs : List α} {rs : List (List Value)} (h : Gr R w base T k v xs rs) : ∀ b, v.ownBlock = some b → base ≤ b ∧ b < w.heap.size := own_block h.own
/-- other memory has changed -/
theorem Gr.keep {α : Type} {R : World → (Nat → Prop) → α → List Value → Prop} (hR : Mvs R) {w w' : World} {base : Nat} {T : TypeId} {k : Nat} {v : Value} {xs : List α} {rs : List (List Value)} (h : Gr R w base T k v xs rs) (hb : ∀ b, base ≤ b → b < w.heap.size → w'.heap[b]? = w.heap[b]?) (hs : w.heap.size ≤ w'.heap.size) : Gr R w' base T k v xs rs :=
  ⟨own_keep h.own fun b hb' => hb b (h.blk b hb').1 (h.blk b hb').2, h.len, h.row, fun j x r h1 h2 => hR _ _ _ _ x r (h.kids j x r h1 h2) (fun b hF => hb b hF.1 hF.2.1) (fun b hF => ⟨hF.1, by have := hF.2.1; omega, hF.2.2⟩)⟩
theorem Gr.push {α : Type} {R : World → (Nat → Prop) → α → List Value → Prop} (hR : Mvs R) {w W : World} {base : Nat} {T : TypeId} {k : Nat} {v : Value} {xs : List α} {rs : List (List Value)} (h : Gr R w base T k v xs rs) {x : α} {r : List Value} (hr : r.length = k) (hx : R w (FarV w base v) x r) {g cap n : Nat} (hn : xs.length = n)
    (ho : W.ownsRow base T k (.slice (some ⟨g, 0, none⟩) (n + 1) cap) (n + 1) (rs.flatMap id ++ r)) (hg : w.grownBy W v.ownBlock) (hgg : v.ownBlock = some g ∨ g = w.heap.size) : Gr R W base T k (.slice (some ⟨g, 0, none⟩) (n + 1) cap) (xs ++ [x]) (rs ++ [r]) := by
  have hmv : ∀ (x : α) (r : List Value), R w (FarV w base v) x r → R W (FarV W base (.slice (some ⟨g, 0, none⟩) (n + 1) cap)) x r := fun x r hx => hR _ _ _ _ x r hx (fun b hF => hg.block b hF.2.1 (fun e => hF.2.2 e.symm)) (fun b hF => ⟨hF.1, by have := hF.2.1; have := hg.size; omega, fun e => by
    have e2 : g = b := by simpa [Value.ownBlock] using e
    rcases hgg with h1 | h1
    · exact hF.2.2 (by rw [h1, e2])
    · have := hF.2.1; omega⟩)
  refine ⟨?_, by simp [h.len], ?_, ?_⟩
  · rw [List.flatMap_append, List.length_append, hn]; simpa using ho
  · intro q hq
    rcases List.mem_append.1 hq with hq | hq
    · exact h.row q hq
    · have : q = r := by simpa using hq
      rw [this]; exact hr
  · intro j y q hy hq
    rcases Nat.lt_or_ge j xs.length with hl | hl
    · rw [List.getElem?_append_left hl] at hy
      rw [List.getElem?_append_left (by rw [h.len]; exact hl)] at hq
      exact hmv y q (h.kids j y q hy hq)
    · rw [List.getElem?_append_right hl] at hy
      rw [List.getElem?_append_right (by rw [h.len]; exact hl), h.len] at hq
      have hj : j - xs.length = 0 := by
        have := (List.getElem?_eq_some_iff.1 hy).1
        simpa using this
      rw [hj] at hy hq
      have e1 : x = y := by simpa using hy
      have e2 : r = q := by simpa using hq
      subst e1 e2
      exact hmv _ _ hx
theorem flatK : ∀ (rs : List (List Value)) (k j : Nat) (r : List Value) (i : Nat), (∀ r ∈ rs, r.length = k) → i < k → rs[j]? = some r → (rs.flatMap id)[j * k + i]? = r[i]?
  | [], k, j, r, i, h8, hi, h => by simp at h
  | a :: t, k, 0, r, i, h8, hi, h => by
    have e : a = r := by simpa using h
    subst e
    rw [List.flatMap_cons, Nat.zero_mul, Nat.zero_add, List.getElem?_append_left (by show i < (id a).length; rw [show (id a).length = k from h8 a (by simp)]; exact hi)]; rfl
  | a :: t, k, j + 1, r, i, h8, hi, h => by
    have ha : (id a).length = k := h8 a (by simp)
    rw [List.flatMap_cons, List.getElem?_append_right (by rw [ha, Nat.succ_mul]; omega), ha, show (j + 1) * k + i - k = j * k + i by rw [Nat.succ_mul]; omega]
    exact flatK t k j r i (fun r hr => h8 r (List.mem_cons_of_mem _ hr)) hi (by simpa using h)
/-- so it is a slice whose elements lie in memory -/
theorem Gr.held {α : Type} {R : World → (Nat → Prop) → α → List Value → Prop} {w : World} {base : Nat} {T : TypeId} {k : Nat} {v : Value} {xs : List α} {rs : List (List Value)} (h : Gr R w base T k v xs rs) (S : Nat → Prop) (hS : ∀ b, v.ownBlock = some b → S b) : SlIn S k (fun x g o => ∃ r, Cells w g o r ∧ R w (FarV w base v) x r) v xs := by
  have hk := h.kids
  have hrow := h.row
  have hlen := h.len
  obtain ⟨hl, ⟨rfl, h0⟩ | ⟨g, cap, cur, rfl, hg, hh, h3, h4, h5, h6⟩⟩ := h.own
  · exact ⟨none, 0, by rw [h0], by omega, .inl (List.eq_nil_of_length_eq_zero h0)⟩
  · refine ⟨_, cap, rfl, h3, .inr ⟨g, 0, rfl, hS g rfl, fun j x hj => ?_⟩⟩
    have hjl := (List.getElem?_eq_some_iff.1 hj).1
    obtain ⟨r, hr⟩ : ∃ r, rs[j]? = some r := ⟨_, List.getElem?_eq_getElem (by rw [hlen]; exact hjl)⟩
    refine ⟨r, fun i u hu => ?_, hk j x r hj hr⟩
    have hrl := hrow r (List.mem_of_getElem? hr)
    have hi : i < k := by
      have := (List.getElem?_eq_some_iff.1 hu).1
      rw [hrl] at this; exact this
    have e := flatK rs k j r i hrow hi hr
    have hb : j * k + i < xs.length * k := by
      have : (j + 1) * k ≤ xs.length * k := Nat.mul_le_mul_right k hjl
      rw [Nat.succ_mul] at this
      omega
    rw [← h6, List.getElem?_take, if_pos (by omega), hu] at e
    simp only [World.cell?, hh]
    rw [Nat.zero_add]
    simpa using e
end Go.Proofs.YtknijddlacmelaaDoor
namespace Go.Proofs.YtknijddlacmelaaDoor
set_option linter.unusedVariables false

/-- the numbers of a tree are such as a machine has -/
def Rg1 (x : Nd) : Prop := (-9223372036854775808 ≤ x.n ∧ x.n ≤ 9223372036854775807) ∧ 0 ≤ x.u ∧ x.u ≤ 18446744073709551615
def RngG : Nat → Nd → Prop
  | 0, x => Rg1 x
  | f + 1, x => Rg1 x ∧ ∀ p ∈ x.fields, ∀ y ∈ p.2, RngG f y
theorem RngG.one {f : Nat} {x : Nd} (h : RngG f x) : Rg1 x := by
  cases f with
  | zero => exact h
  | succ f => exact h.1
/-- how much a tree weighs, and how many bytes it may have -/
def sumL {α : Type} (g : α → Nat) : List α → Nat
  | [] => 0
  | a :: l => g a + sumL g l
theorem sumL_append {α : Type} (g : α → Nat) (l m : List α) : sumL g (l ++ m) = sumL g l + sumL g m := by
  induction l with
  | nil => simp [sumL]
  | cons a l ih => rw [List.cons_append, sumL, sumL, ih]; omega
theorem sumL_mem {α : Type} {g : α → Nat} {l : List α} {a : α} (h : a ∈ l) : g a ≤ sumL g l := by
  induction l with
  | nil => cases h
  | cons b l ih =>
    rw [sumL]
    rcases List.mem_cons.1 h with rfl | h
    · omega
    · have := ih h; omega
def wtN : Nat → Nd → Nat
  | 0, x => x.s.length / 100 + 1
  | f + 1, x => x.s.length / 100 + 1 + sumL (fun p => 1 + sumL (wtN f) p.2) x.fields
end Go.Proofs.YtknijddlacmelaaDoor
