/-
  Declarations in memory: what their cells hold, whichever blocks they lie in. Nothing is proved of the program here.
-/
import Derived.Test.YtglkgcpfdhneeaaDoorPsM
import Derived.Below
import Derived.WalkKit
namespace Go.Proofs.YtglkgcpfdhneeaaDoor
set_option linter.unusedVariables false
open Go.RowKit

def frow (x : Fd) : List Value := [.bool x.rep, .string (mkB x.type), .string (mkB x.name), .int .i64 x.num, .int .i64 x.line, .int .i64 x.col]
def vrow (x : Vl) : List Value := [.string (mkB x.name), .int .i64 x.num, .int .i64 x.line, .int .i64 x.col]
def mrow (x : Mt) : List Value := [.string (mkB x.name), .string (mkB x.inp), .string (mkB x.out), .int .i64 x.line, .int .i64 x.col]
def drow (d : Dc) (fs vs ms ins : Value) : List Value := [.int .i64 d.kind, .string (mkB d.name), .int .i64 d.line, .int .i64 d.col, fs, vs, ms, ins]
/-- a slice's elements lie in memory, in a block of S -/
def RowsIn {α : Type} (w : World) (S : Nat → Prop) (k : Nat) (row : α → List Value) (v : Value) (xs : List α) : Prop :=
  ∃ ad c, v = .slice ad xs.length c ∧ xs.length ≤ c ∧ (xs = [] ∨ ∃ g o, ad = some ⟨g, o, none⟩ ∧ S g ∧ ∀ (j : Nat) (x : α), xs[j]? = some x → ∀ (i : Nat) (u : Value), (row x)[i]? = some u → w.cell? ⟨g, o + (j * k + i), none⟩ = some u)
theorem RowsIn.old {α : Type} {w w' : World} {S : Nat → Prop} {k : Nat} {row : α → List Value} {v : Value} {xs : List α} (h : RowsIn w S k row v xs) (hb : ∀ b, S b → w'.heap[b]? = w.heap[b]?) : RowsIn w' S k row v xs := by
  obtain ⟨ad, c, hv, hc, h⟩ := h
  refine ⟨ad, c, hv, hc, h.imp id ?_⟩
  rintro ⟨g, o, ha, hg, h⟩
  exact ⟨g, o, ha, hg, fun j x hj i u hu => by rw [World.cell?_of_block (hb g hg)]; exact h j x hj i u hu⟩
theorem RowsIn.more {α : Type} {w : World} {S S' : Nat → Prop} {k : Nat} {row : α → List Value} {v : Value} {xs : List α} (h : RowsIn w S k row v xs) (hb : ∀ b, S b → S' b) : RowsIn w S' k row v xs := by
  obtain ⟨ad, c, hv, hc, h⟩ := h
  refine ⟨ad, c, hv, hc, h.imp id ?_⟩
  rintro ⟨g, o, ha, hg, h⟩
  exact ⟨g, o, ha, hb g hg, h⟩
theorem RowsIn.nil {α : Type} (w : World) (S : Nat → Prop) (k : Nat) (row : α → List Value) (ad : Option Addr) (c : Nat) : RowsIn w S k row (.slice ad 0 c) ([] : List α) := ⟨ad, c, rfl, Nat.zero_le _, .inl rfl⟩
/-- declarations lie in memory, in blocks of S, at most so deep -/
def HeldD : Nat → World → (Nat → Prop) → Value → List Dc → Prop
  | 0, w, S, v, ds => ds = [] ∧ ∃ ad c, v = .slice ad 0 c
  | f + 1, w, S, v, ds => ∃ ad c, v = .slice ad ds.length c ∧ ds.length ≤ c ∧ (ds = [] ∨ ∃ g o, ad = some ⟨g, o, none⟩ ∧ S g ∧ ∀ (j : Nat) (d : Dc), ds[j]? = some d →
      ∃ fs vs ms ins, (∀ (i : Nat) (u : Value), (drow d fs vs ms ins)[i]? = some u → w.cell? ⟨g, o + (j * 8 + i), none⟩ = some u) ∧
        RowsIn w S 6 frow fs d.fields ∧ RowsIn w S 4 vrow vs d.values ∧ RowsIn w S 5 mrow ms d.methods ∧ HeldD f w S ins d.inner)
/-- what one declaration's slices lead to -/
def Kids (f : Nat) (w : World) (S : Nat → Prop) (fs vs ms ins : Value) (d : Dc) : Prop :=
  RowsIn w S 6 frow fs d.fields ∧ RowsIn w S 4 vrow vs d.values ∧ RowsIn w S 5 mrow ms d.methods ∧ HeldD f w S ins d.inner
theorem HeldD.old {w w' : World} {S : Nat → Prop} (hb : ∀ b, S b → w'.heap[b]? = w.heap[b]?) : ∀ {f : Nat} {v : Value} {ds : List Dc}, HeldD f w S v ds → HeldD f w' S v ds
  | 0, v, ds, h => h
  | f + 1, v, ds, h => by
    obtain ⟨ad, c, hv, hc, h⟩ := h
    refine ⟨ad, c, hv, hc, h.imp id ?_⟩
    rintro ⟨g, o, ha, hg, h⟩
    refine ⟨g, o, ha, hg, fun j d hj => ?_⟩
    obtain ⟨fs, vs, ms, ins, h0, h1, h2, h3, h4⟩ := h j d hj
    exact ⟨fs, vs, ms, ins, fun i u hu => by rw [World.cell?_of_block (hb g hg)]; exact h0 i u hu, h1.old hb, h2.old hb, h3.old hb, HeldD.old hb h4⟩
theorem HeldD.more {w : World} {S S' : Nat → Prop} (hb : ∀ b, S b → S' b) : ∀ {f : Nat} {v : Value} {ds : List Dc}, HeldD f w S v ds → HeldD f w S' v ds
  | 0, v, ds, h => h
  | f + 1, v, ds, h => by
    obtain ⟨ad, c, hv, hc, h⟩ := h
    refine ⟨ad, c, hv, hc, h.imp id ?_⟩
    rintro ⟨g, o, ha, hg, h⟩
    refine ⟨g, o, ha, hb g hg, fun j d hj => ?_⟩
    obtain ⟨fs, vs, ms, ins, h0, h1, h2, h3, h4⟩ := h j d hj
    exact ⟨fs, vs, ms, ins, h0, h1.more hb, h2.more hb, h3.more hb, HeldD.more hb h4⟩
theorem HeldD.nil (f : Nat) (w : World) (S : Nat → Prop) (ad : Option Addr) (c : Nat) : HeldD f w S (.slice ad 0 c) [] := by
  cases f with
  | zero => exact ⟨rfl, ad, c, rfl⟩
  | succ f => exact ⟨ad, c, rfl, Nat.zero_le _, .inl rfl⟩
theorem HeldD.up {w : World} {S : Nat → Prop} : ∀ {f : Nat} {v : Value} {ds : List Dc}, HeldD f w S v ds → HeldD (f + 1) w S v ds
  | 0, v, ds, ⟨h, ad, c, hv⟩ => by subst h; rw [hv]; exact HeldD.nil 1 w S ad c
  | f + 1, v, ds, h => by
    obtain ⟨ad, c, hv, hc, h⟩ := h
    refine ⟨ad, c, hv, hc, h.imp id ?_⟩
    rintro ⟨g, o, ha, hg, h⟩
    refine ⟨g, o, ha, hg, fun j d hj => ?_⟩
    obtain ⟨fs, vs, ms, ins, h0, h1, h2, h3, h4⟩ := h j d hj
    exact ⟨fs, vs, ms, ins, h0, h1, h2, h3, HeldD.up h4⟩
theorem Kids.old {f : Nat} {w w' : World} {S : Nat → Prop} {fs vs ms ins : Value} {d : Dc} (h : Kids f w S fs vs ms ins d) (hb : ∀ b, S b → w'.heap[b]? = w.heap[b]?) : Kids f w' S fs vs ms ins d :=
  ⟨h.1.old hb, h.2.1.old hb, h.2.2.1.old hb, HeldD.old hb h.2.2.2⟩
theorem Kids.more {f : Nat} {w : World} {S S' : Nat → Prop} {fs vs ms ins : Value} {d : Dc} (h : Kids f w S fs vs ms ins d) (hb : ∀ b, S b → S' b) : Kids f w S' fs vs ms ins d :=
  ⟨h.1.more hb, h.2.1.more hb, h.2.2.1.more hb, HeldD.more hb h.2.2.2⟩
theorem Kids.up {f : Nat} {w : World} {S : Nat → Prop} {fs vs ms ins : Value} {d : Dc} (h : Kids f w S fs vs ms ins d) : Kids (f + 1) w S fs vs ms ins d := ⟨h.1, h.2.1, h.2.2.1, h.2.2.2.up⟩
/-- elements of one size, one behind the other -/
theorem flat_at {α : Type} {k : Nat} {row : α → List Value} (hk : ∀ x, (row x).length = k) : ∀ (xs : List α) (j : Nat) (x : α) (i : Nat), i < k → xs[j]? = some x → (xs.flatMap row)[j * k + i]? = (row x)[i]?
  | [], j, x, i, hi, h => by simp at h
  | a :: t, 0, x, i, hi, h => by
    have : a = x := by simpa using h
    subst this
    rw [List.flatMap_cons, Nat.zero_mul, Nat.zero_add, List.getElem?_append_left (by rw [hk]; exact hi)]
  | a :: t, j + 1, x, i, hi, h => by
    rw [List.flatMap_cons, List.getElem?_append_right (by rw [hk, Nat.succ_mul]; omega), hk, show (j + 1) * k + i - k = j * k + i by rw [Nat.succ_mul]; omega]
    exact flat_at hk t j x i hi (by simpa using h)
/-- a slice that the call has made holds its elements -/
theorem rowsIn_own {α : Type} {w : World} {base : Nat} {E : TypeId} {k : Nat} {row : α → List Value} (hk : ∀ x, (row x).length = k) {v : Value} {xs : List α} (h : w.ownsRow base E k v xs.length (xs.flatMap row)) (S : Nat → Prop) (hS : ∀ b, v.ownBlock = some b → S b) : RowsIn w S k row v xs := by
  obtain ⟨hl, ⟨rfl, h0⟩ | ⟨g, cap, cur, rfl, hg, hh, h3, h4, h5, h6⟩⟩ := h
  · exact ⟨none, 0, by rw [h0], by omega, .inl (List.eq_nil_of_length_eq_zero h0)⟩
  · refine ⟨_, cap, rfl, h3, .inr ⟨g, 0, rfl, hS g rfl, fun j x hj i u hu => ?_⟩⟩
    have hi : i < k := by
      have := (List.getElem?_eq_some_iff.1 hu).1
      rw [hk] at this; exact this
    have e := flat_at hk xs j x i hi hj
    have hjl := (List.getElem?_eq_some_iff.1 hj).1
    have hb : j * k + i < xs.length * k := by
      have : (j + 1) * k ≤ xs.length * k := Nat.mul_le_mul_right k hjl
      rw [Nat.succ_mul] at this
      omega
    rw [← h6, List.getElem?_take, if_pos (by omega), hu] at e
    simp only [World.cell?, hh]
    rw [Nat.zero_add]
    simpa using e
end Go.Proofs.YtglkgcpfdhneeaaDoor
