/-
  Words and slices in memory, and steps of the plain reader: what the walks share. Nothing is proved of the program here.
-/
import Derived.Test.YtbfkaanmbdekfaaDoorPsM
import Derived.Test.YtbfkaanmbdekfaaDoorPsT
import Derived.Test.YtbfkaanmbdekfaaDoorPsX
import Derived.Laws.AppendOwn
import Derived.OwnWalk
import Derived.Maps.AppendAt
import Derived.BigQuiet
import Derived.Deep.QuietTactic
import Derived.Deep.AppendLies
import Derived.Lib.Hide
namespace Go.Proofs.YtbfkaanmbdekfaaDoor
set_option linter.unusedVariables false
open Go.ChangeShapes Go.WideShapes Go.ChangeAt Go.RowKit

theorem setCell_heap {w : World} {R j : Nat} {cs : Array Value} {t : TypeId} {fr : Nat × Nat} (h : w.heap[R]? = some (.cells cs t fr)) (x : Value) : (w.setCell ⟨R, j, none⟩ x).heap[R]? = some (.cells (cs.setIfInBounds j x) t fr) := by
  rw [setCell_eq_setRow _ _ _ _ _ _ _ h, setRow_heap w R _ _ _ _ h]
theorem alloc_heap_old (w : World) (o : Obj) (k : Nat) (h : k < w.heap.size) : (w.alloc o).heap[k]? = w.heap[k]? := Below.heap_alloc w o k h
theorem alloc_heap_new (w : World) (o : Obj) : (w.alloc o).heap[w.heap.size]? = some o := by
  show (w.heap.push o)[w.heap.size]? = _
  simp
theorem grownBy_set (w : World) (R j : Nat) (x : Value) : w.grownBy (w.setCell ⟨R, j, none⟩ x) (some R) :=
  have b := (Below.refl R w).setCell (p := ⟨R, j, none⟩) (Nat.le_refl _) x
  ⟨b.os, b.tape, b.output, b.size, fun k hk hne => Below.heap_setCell _ _ _ _ (fun e => hne (by rw [e]))⟩
theorem grownBy_drew (w : World) (row : Option Nat) : w.grownBy w.drew row := ⟨rfl, rfl, rfl, Nat.le_refl _, fun _ _ _ => rfl⟩
theorem grownBy_below {w w' : World} (h : Below w.heap.size w w') (row : Option Nat) : w.grownBy w' row := ⟨h.os, h.tape, h.output, h.size, fun k hk _ => h.block k hk⟩
theorem grow_then {a b c : World} {row row' : Option Nat} (h : a.grownBy b row) (k : b.grownBy c row') (hr : ∀ j, row' = some j → a.heap.size ≤ j ∨ row = some j) : a.grownBy c row :=
  ⟨k.os.trans h.os, k.tape.trans h.tape, k.output.trans h.output, Nat.le_trans h.size k.size, fun i hi hne => (k.block i (Nat.lt_of_lt_of_le hi h.size) (fun e => by
    rcases hr i e.symm with h1 | h1
    · omega
    · exact hne h1.symm)).trans (h.block i hi hne)⟩

/-- words lie in memory, from a place of a block below R -/
def WordsAt (w : World) (R : Nat) (ad : Option Addr) (l : List Wd) : Prop :=
  l = [] ∨ ∃ g o, ad = some ⟨g, o, none⟩ ∧ g < R ∧ ∀ (j : Nat) (x : Wd), l[j]? = some x → w.cell? ⟨g, o + j * 4, none⟩ = some (.int .i64 x.kind) ∧ w.cell? ⟨g, o + (j * 4 + 1), none⟩ = some (.string (mkB x.text)) ∧
    w.cell? ⟨g, o + (j * 4 + 2), none⟩ = some (.int .i64 (x.line : Int)) ∧ w.cell? ⟨g, o + (j * 4 + 3), none⟩ = some (.int .i64 (x.col : Int))
/-- what every word is -/
def GoodW (x : Wd) : Prop := x.text.length ≤ 20000 ∧ (x.kind = 2 → x.text.all isDig = true ∧ x.text.length ≤ 10)
theorem WordsAt.old {w w' : World} {R : Nat} {ad : Option Addr} {l : List Wd} (h : WordsAt w R ad l) (hb : ∀ k, k < R → w'.heap[k]? = w.heap[k]?) : WordsAt w' R ad l := by
  rcases h with h | ⟨g, o, rfl, hg, h⟩
  · exact .inl h
  · refine .inr ⟨g, o, rfl, hg, fun j x hj => ?_⟩
    obtain ⟨h1, h2, h3, h4⟩ := h j x hj
    have e := hb g hg
    exact ⟨by rw [World.cell?_of_block e]; exact h1, by rw [World.cell?_of_block e]; exact h2, by rw [World.cell?_of_block e]; exact h3, by rw [World.cell?_of_block e]; exact h4⟩
/-- the first word's cells -/
theorem WordsAt.head {w : World} {R : Nat} {ad : Option Addr} {x : Wd} {t : List Wd} (h : WordsAt w R ad (x :: t)) : ∃ g o, ad = some ⟨g, o, none⟩ ∧ g < R ∧ w.cell? ⟨g, o, none⟩ = some (.int .i64 x.kind) ∧ w.cell? ⟨g, o + 1, none⟩ = some (.string (mkB x.text)) ∧
    w.cell? ⟨g, o + 2, none⟩ = some (.int .i64 (x.line : Int)) ∧ w.cell? ⟨g, o + 3, none⟩ = some (.int .i64 (x.col : Int)) := by
  rcases h with h | ⟨g, o, rfl, hg, h⟩
  · cases h
  · have := h 0 x rfl
    exact ⟨g, o, rfl, hg, this⟩
/-- the words behind the first one -/
theorem WordsAt.tail {w : World} {R : Nat} {ad : Option Addr} {x : Wd} {t : List Wd} (h : WordsAt w R ad (x :: t)) {g o : Nat} (ha : ad = some ⟨g, o, none⟩) (ad' : Option Addr) (hd : t = [] ∨ ad' = some ⟨g, o + 4, none⟩) : WordsAt w R ad' t := by
  rcases hd with hd | hd
  · exact .inl hd
  · rcases h with h | ⟨g', o', ha', hg, h⟩
    · cases h
    · rw [ha] at ha'
      simp only [Option.some.injEq, Addr.mk.injEq] at ha'
      obtain ⟨rfl, rfl, _⟩ := ha'
      refine .inr ⟨g, o + 4, hd, hg, fun j y hj => ?_⟩
      have := h (j + 1) y (by simpa using hj)
      rw [show o + (j + 1) * 4 = o + 4 + j * 4 by omega, show o + ((j + 1) * 4 + 1) = o + 4 + (j * 4 + 1) by omega, show o + ((j + 1) * 4 + 2) = o + 4 + (j * 4 + 2) by omega, show o + ((j + 1) * 4 + 3) = o + 4 + (j * 4 + 3) by omega] at this
      exact this
theorem Rd.is_head {r : Rd} {t : List UInt8} (h : r.is t = true) : ∃ y l, r.l = y :: l := by
  have := (Rd.is_ok h).2.1
  cases hl : r.l with
  | nil => exact absurd hl this
  | cons y l => exact ⟨y, l, rfl⟩
theorem Rd.name_head {r : Rd} (h : r.isName = true) : ∃ y l, r.l = y :: l ∧ r.e = 0 ∧ y.kind = 1 ∧ resOf y.text = false := by
  unfold Rd.isName at h
  cases hl : r.l with
  | nil => rw [hl] at h; simp at h
  | cons y l =>
    rw [hl] at h
    simp only [Bool.and_eq_true, decide_eq_true_iff, Bool.not_eq_true'] at h
    exact ⟨y, l, rfl, h.1, h.2.1, h.2.2⟩
/-- the answer is told -/
theorem set6 {w : World} {B : Nat} {T : TypeId} {z0 z1 z2 z3 z4 z5 : Value} (h : w.heap[B]? = some (.cells #[z0, z1, z2, z3, z4, z5] T (0, 0))) (x0 x1 x2 x3 x4 x5 : Value) :
    ((((((w.setCell ⟨B, 0, none⟩ x0).setCell ⟨B, 1, none⟩ x1).setCell ⟨B, 2, none⟩ x2).setCell ⟨B, 3, none⟩ x3).setCell ⟨B, 4, none⟩ x4).setCell ⟨B, 5, none⟩ x5).heap[B]? = some (.cells #[x0, x1, x2, x3, x4, x5] T (0, 0)) := by
  have h1 : (w.setCell ⟨B, 0, none⟩ x0).heap[B]? = some (.cells #[x0, z1, z2, z3, z4, z5] T (0, 0)) := setCell_heap h _
  have h2 : ((w.setCell ⟨B, 0, none⟩ x0).setCell ⟨B, 1, none⟩ x1).heap[B]? = some (.cells #[x0, x1, z2, z3, z4, z5] T (0, 0)) := setCell_heap h1 _
  have h3 : (((w.setCell ⟨B, 0, none⟩ x0).setCell ⟨B, 1, none⟩ x1).setCell ⟨B, 2, none⟩ x2).heap[B]? = some (.cells #[x0, x1, x2, z3, z4, z5] T (0, 0)) := setCell_heap h2 _
  have h4 : ((((w.setCell ⟨B, 0, none⟩ x0).setCell ⟨B, 1, none⟩ x1).setCell ⟨B, 2, none⟩ x2).setCell ⟨B, 3, none⟩ x3).heap[B]? = some (.cells #[x0, x1, x2, x3, z4, z5] T (0, 0)) := setCell_heap h3 _
  have h5 : (((((w.setCell ⟨B, 0, none⟩ x0).setCell ⟨B, 1, none⟩ x1).setCell ⟨B, 2, none⟩ x2).setCell ⟨B, 3, none⟩ x3).setCell ⟨B, 4, none⟩ x4).heap[B]? = some (.cells #[x0, x1, x2, x3, x4, z5] T (0, 0)) := setCell_heap h4 _
  have h6 : ((((((w.setCell ⟨B, 0, none⟩ x0).setCell ⟨B, 1, none⟩ x1).setCell ⟨B, 2, none⟩ x2).setCell ⟨B, 3, none⟩ x3).setCell ⟨B, 4, none⟩ x4).setCell ⟨B, 5, none⟩ x5).heap[B]? = some (.cells #[x0, x1, x2, x3, x4, x5] T (0, 0)) := setCell_heap h5 _
  exact h6
theorem set8 {w : World} {B : Nat} {T : TypeId} {z0 z1 z2 z3 z4 z5 z6 z7 : Value} (h : w.heap[B]? = some (.cells #[z0, z1, z2, z3, z4, z5, z6, z7] T (0, 0))) (x0 x1 x2 x3 x4 x5 x6 x7 : Value) :
    ((((((((w.setCell ⟨B, 0, none⟩ x0).setCell ⟨B, 1, none⟩ x1).setCell ⟨B, 2, none⟩ x2).setCell ⟨B, 3, none⟩ x3).setCell ⟨B, 4, none⟩ x4).setCell ⟨B, 5, none⟩ x5).setCell ⟨B, 6, none⟩ x6).setCell ⟨B, 7, none⟩ x7).heap[B]? = some (.cells #[x0, x1, x2, x3, x4, x5, x6, x7] T (0, 0)) := by
  have h1 : (w.setCell ⟨B, 0, none⟩ x0).heap[B]? = some (.cells #[x0, z1, z2, z3, z4, z5, z6, z7] T (0, 0)) := setCell_heap h _
  have h2 : ((w.setCell ⟨B, 0, none⟩ x0).setCell ⟨B, 1, none⟩ x1).heap[B]? = some (.cells #[x0, x1, z2, z3, z4, z5, z6, z7] T (0, 0)) := setCell_heap h1 _
  have h3 : (((w.setCell ⟨B, 0, none⟩ x0).setCell ⟨B, 1, none⟩ x1).setCell ⟨B, 2, none⟩ x2).heap[B]? = some (.cells #[x0, x1, x2, z3, z4, z5, z6, z7] T (0, 0)) := setCell_heap h2 _
  have h4 : ((((w.setCell ⟨B, 0, none⟩ x0).setCell ⟨B, 1, none⟩ x1).setCell ⟨B, 2, none⟩ x2).setCell ⟨B, 3, none⟩ x3).heap[B]? = some (.cells #[x0, x1, x2, x3, z4, z5, z6, z7] T (0, 0)) := setCell_heap h3 _
  have h5 : (((((w.setCell ⟨B, 0, none⟩ x0).setCell ⟨B, 1, none⟩ x1).setCell ⟨B, 2, none⟩ x2).setCell ⟨B, 3, none⟩ x3).setCell ⟨B, 4, none⟩ x4).heap[B]? = some (.cells #[x0, x1, x2, x3, x4, z5, z6, z7] T (0, 0)) := setCell_heap h4 _
  have h6 : ((((((w.setCell ⟨B, 0, none⟩ x0).setCell ⟨B, 1, none⟩ x1).setCell ⟨B, 2, none⟩ x2).setCell ⟨B, 3, none⟩ x3).setCell ⟨B, 4, none⟩ x4).setCell ⟨B, 5, none⟩ x5).heap[B]? = some (.cells #[x0, x1, x2, x3, x4, x5, z6, z7] T (0, 0)) := setCell_heap h5 _
  have h7 : (((((((w.setCell ⟨B, 0, none⟩ x0).setCell ⟨B, 1, none⟩ x1).setCell ⟨B, 2, none⟩ x2).setCell ⟨B, 3, none⟩ x3).setCell ⟨B, 4, none⟩ x4).setCell ⟨B, 5, none⟩ x5).setCell ⟨B, 6, none⟩ x6).heap[B]? = some (.cells #[x0, x1, x2, x3, x4, x5, x6, z7] T (0, 0)) := setCell_heap h6 _
  have h8 : ((((((((w.setCell ⟨B, 0, none⟩ x0).setCell ⟨B, 1, none⟩ x1).setCell ⟨B, 2, none⟩ x2).setCell ⟨B, 3, none⟩ x3).setCell ⟨B, 4, none⟩ x4).setCell ⟨B, 5, none⟩ x5).setCell ⟨B, 6, none⟩ x6).setCell ⟨B, 7, none⟩ x7).heap[B]? = some (.cells #[x0, x1, x2, x3, x4, x5, x6, x7] T (0, 0)) := setCell_heap h7 _
  exact h8
theorem own_block {w : World} {base : Nat} {E : TypeId} {k n : Nat} {v : Value} {xs : List Value} (h : w.ownsRow base E k v n xs) : ∀ b, v.ownBlock = some b → base ≤ b ∧ b < w.heap.size := by
  intro b hb
  obtain ⟨_, ⟨rfl, _⟩ | ⟨g, cap, cur, rfl, hg, hh, _⟩⟩ := h
  · simp [Value.ownBlock] at hb
  · simp [Value.ownBlock] at hb
    have := (Array.getElem?_eq_some_iff.1 hh).1
    omega
theorem own_slice {w : World} {base : Nat} {E : TypeId} {k n : Nat} {v : Value} {xs : List Value} (h : w.ownsRow base E k v n xs) : ∃ a c, v = .slice a n c := by
  obtain ⟨_, ⟨rfl, h0⟩ | ⟨g, cap, cur, rfl, _⟩⟩ := h
  · exact ⟨none, 0, by rw [h0]⟩
  · exact ⟨_, _, rfl⟩
theorem own_keep {w w' : World} {base : Nat} {E : TypeId} {k n : Nat} {v : Value} {xs : List Value} (h : w.ownsRow base E k v n xs) (hh : ∀ b, v.ownBlock = some b → w'.heap[b]? = w.heap[b]?) : w'.ownsRow base E k v n xs := by
  obtain ⟨h1, h2 | ⟨g, cap, cur, hv, hg, hhp, r⟩⟩ := h
  · exact ⟨h1, .inl h2⟩
  · exact ⟨h1, .inr ⟨g, cap, cur, hv, hg, by rw [hh g (by rw [hv]; rfl)]; exact hhp, r⟩⟩
abbrev z8 : Array Value := #[.int .i64 0, .string ⟨#[]⟩, .int .i64 0, .int .i64 0, .slice none 0 0, .slice none 0 0, .slice none 0 0, .slice none 0 0]
theorem valuesL_stop (en : Int × Int) (f : Nat) (r : Rd) (acc : List Vl) (h : ¬ (r.e = 0 ∧ r.is [125] = false)) : valuesL en f r acc = (acc, r) := by
  cases f with
  | zero => rfl
  | succ f => rw [valuesL, if_neg h]
theorem valuesL_go (en : Int × Int) (f : Nat) (r : Rd) (acc : List Vl) (h : r.e = 0 ∧ r.is [125] = false) : valuesL en (f + 1) r acc = valuesL en f (r.value en).2 (acc ++ [(r.value en).1]) := by
  rw [valuesL, if_pos h]
theorem methodsL_stop (en : Int × Int) (f : Nat) (r : Rd) (acc : List Mt) (h : ¬ (r.e = 0 ∧ r.is [125] = false)) : methodsL en f r acc = (acc, r) := by
  cases f with
  | zero => rfl
  | succ f => rw [methodsL, if_neg h]
theorem methodsL_go (en : Int × Int) (f : Nat) (r : Rd) (acc : List Mt) (h : r.e = 0 ∧ r.is [125] = false) : methodsL en (f + 1) r acc = methodsL en f (r.method en).2 (acc ++ [(r.method en).1]) := by
  rw [methodsL, if_pos h]
theorem bodyL_stop (en : Int × Int) (msg : Rd → Dc × Rd) (f : Nat) (r : Rd) (fs : List Fd) (ds : List Dc) (h : ¬ (r.e = 0 ∧ r.is [125] = false)) : bodyL en msg f r fs ds = ((fs, ds), r) := by
  cases f with
  | zero => rfl
  | succ f => rw [bodyL, if_neg h]
theorem bodyL_go (en : Int × Int) (msg : Rd → Dc × Rd) (f : Nat) (r : Rd) (fs : List Fd) (ds : List Dc) (h : r.e = 0 ∧ r.is [125] = false) : bodyL en msg (f + 1) r fs ds =
    (if r.is tMessage = true then bodyL en msg f (msg r).2 fs (ds ++ [(msg r).1]) else if r.is tEnum = true then bodyL en msg f (r.enum en).2 fs (ds ++ [(r.enum en).1]) else bodyL en msg f (r.field en).2 (fs ++ [(r.field en).1]) ds) := by
  rw [bodyL, if_pos h]
theorem declsL_stop (en : Int × Int) (f : Nat) (r : Rd) (acc : List Dc) (h : ¬ (r.e = 0 ∧ r.l ≠ [])) : declsL en f r acc = (acc, r) := by
  cases f with
  | zero => rfl
  | succ f => rw [declsL, if_neg h]
theorem declsL_go (en : Int × Int) (f : Nat) (r : Rd) (acc : List Dc) (h : r.e = 0 ∧ r.l ≠ []) : declsL en (f + 1) r acc =
    (if r.is tMessage = true then declsL en f (r.message en 1).2 (acc ++ [(r.message en 1).1])
      else if r.is tEnum = true then declsL en f (r.enum en).2 (acc ++ [(r.enum en).1])
      else if r.is tService = true then declsL en f (r.service en).2 (acc ++ [(r.service en).1])
      else declsL en f (r.fail 7 (r.here en)) acc) := by
  rw [declsL, if_pos h]
theorem words_few (l : List UInt8) : (wordsL l).1.length ≤ 4000 := by
  unfold wordsL
  split
  · simp
  · exact lexL_count _ _ _ _ _ (by simp)
theorem words_good (l : List UInt8) : ∀ x ∈ (wordsL l).1, GoodW x := by
  intro x hx
  refine ⟨words_texts l x hx, fun hk => ?_⟩
  have hok : WordOK x := by
    unfold wordsL at hx
    split at hx
    · simp at hx
    · exact lexL_ok _ _ _ _ _ (by simp) x hx
  rcases hok with ⟨h1, _⟩ | ⟨_, _, h2⟩ | ⟨h3, _⟩
  · omega
  · rw [Bool.and_eq_true] at h2
    refine ⟨h2.1, ?_⟩
    have h3 := h2.2
    unfold numL at h3
    rw [Bool.and_eq_true, Bool.and_eq_true, decide_eq_true_iff] at h3
    exact h3.1.1
  · omega
theorem words_short (l : List UInt8) (h : (wordsL l).2.2 = 0) : l.length ≤ 20000 := by
  unfold wordsL at h
  split at h
  · exact absurd h (by decide)
  · omega
theorem Rd.scal_head {r : Rd} (h : r.isScal = true) : ∃ y l, r.l = y :: l ∧ r.e = 0 ∧ 0 < scalarOf y.text := by
  unfold Rd.isScal at h
  cases hl : r.l with
  | nil => rw [hl] at h; simp at h
  | cons y l =>
    rw [hl] at h
    simp only [Bool.and_eq_true, decide_eq_true_iff] at h
    exact ⟨y, l, rfl, h.1, h.2⟩
theorem Rd.scal_not {r : Rd} (hi : ¬ r.isScal = true) : r.e ≠ 0 ∨ (r.e = 0 ∧ r.l = []) ∨ (∃ y t, r.e = 0 ∧ r.l = y :: t ∧ ¬ 0 < scalarOf y.text) := by
  by_cases he : r.e = 0
  · right
    cases hl' : r.l with
    | nil => exact .inl ⟨he, rfl⟩
    | cons y t =>
      right
      refine ⟨y, t, he, rfl, fun hk => hi ?_⟩
      unfold Rd.isScal
      rw [hl', he]
      simp [hk]
  · exact .inl he
abbrev z6 : Array Value := #[.bool false, .string ⟨#[]⟩, .string ⟨#[]⟩, .int .i64 0, .int .i64 0, .int .i64 0]
theorem flat8 : ∀ (rs : List (List Value)) (j : Nat) (r : List Value) (i : Nat), (∀ r ∈ rs, r.length = 8) → i < 8 → rs[j]? = some r → (rs.flatMap id)[j * 8 + i]? = r[i]?
  | [], j, r, i, h8, hi, h => by simp at h
  | a :: t, 0, r, i, h8, hi, h => by
    have e : a = r := by simpa using h
    subst e
    rw [List.flatMap_cons, Nat.zero_mul, Nat.zero_add, List.getElem?_append_left (by show i < (id a).length; rw [show (id a).length = 8 from h8 a (by simp)]; exact hi)]; rfl
  | a :: t, j + 1, r, i, h8, hi, h => by
    have ha : (id a).length = 8 := h8 a (by simp)
    rw [List.flatMap_cons, List.getElem?_append_right (by rw [ha]; omega), ha, show (j + 1) * 8 + i - 8 = j * 8 + i by omega]
    exact flat8 t j r i (fun x hx => h8 x (by simp [hx])) hi (by simpa using h)
theorem Rd.m_le (r : Rd) : r.m ≤ r.l.length + 1 := by
  unfold Rd.m; split <;> omega
theorem mkB_app (a b : List UInt8) : mkB (a ++ b) = mkB a ++ mkB b := by
  apply ByteArray.ext
  show (a ++ b).toArray = (mkB a ++ mkB b).data
  rw [ByteArray.data_append]
  simp [mkB]
theorem mkB_len (l : List UInt8) : (mkB l).size = l.length := by rw [← len_data]; rfl
theorem Rd.m_pos {r : Rd} {t : List UInt8} (h : r.is t = true) : 1 ≤ r.m := by
  unfold Rd.m; rw [if_pos (Rd.is_ok h).1]; omega
theorem pathL_stop (en first : Int × Int) (f n : Nat) (s : List UInt8) (r : Rd) (h : r.is [46] = false) : pathL en first f n s r = (s, r) := by
  cases f with
  | zero => rfl
  | succ f => rw [pathL, if_neg (by rw [h]; decide)]
theorem pathL_go (en first : Int × Int) (f n : Nat) (s : List UInt8) (r : Rd) (h : r.is [46] = true) : pathL en first (f + 1) n s r = pathL en first f (n + 1) (s ++ [46] ++ (r.take en [46]).nameT) (if n = 8 then ((r.take en [46]).name en).fail 8 first else (r.take en [46]).name en) := by
  rw [pathL, if_pos h]
theorem Rd.fail_e (r : Rd) (e : Int) (p : Int × Int) (he : e ≠ 0) : (r.fail e p).e ≠ 0 := by
  unfold Rd.fail
  split
  · exact he
  · assumption
/-- how many words are left, off the memory -/
def rdM (w : World) (R : Nat) : Nat :=
  match w.cell? ⟨R, 5, none⟩, w.cell? ⟨R, 0, none⟩ with
  | some (.int _ e), some (.slice _ n _) => if e = 0 then n + 1 else 0
  | _, _ => 0
theorem keepG {w w' : World} {R G : Nat} {o : Obj} (h : w.heap[G]? = some o) (hg : w.grownBy w' (some R)) (hne : R ≠ G) : w'.heap[G]? = some o := by
  rw [hg.block G (Array.getElem?_eq_some_iff.1 h).1 (by intro e; cases e; exact hne rfl)]; exact h
/-- an enum, as a value -/
def dval (kind : Int) (nm : List UInt8) (l c : Int) (fs vs ms ins : Value) : Value := .agg #[.int .i64 kind, .string (mkB nm), .int .i64 l, .int .i64 c, fs, vs, ms, ins]
/-- a field, as a value -/
def fval (f : Fd) : Value := .agg #[.bool f.rep, .string (mkB f.type), .string (mkB f.name), .int .i64 f.num, .int .i64 f.line, .int .i64 f.col]
theorem Rd.fail_keep {r : Rd} (h : r.e ≠ 0) (e : Int) (p : Int × Int) : r.fail e p = r := by unfold Rd.fail; rw [if_neg h]
theorem Rd.take_e {en : Int × Int} {r : Rd} (h : r.e ≠ 0) (t : List UInt8) : (r.take en t).e ≠ 0 := by
  unfold Rd.take
  rw [if_neg (fun hi => h (Rd.is_ok hi).1), Rd.fail_keep h]; exact h
theorem Rd.name_e {en : Int × Int} {r : Rd} (h : r.e ≠ 0) : (r.name en).e ≠ 0 := by
  unfold Rd.name
  rw [if_neg (fun hi => h (Rd.isName_ok hi).1), Rd.fail_keep h]; exact h
end Go.Proofs.YtbfkaanmbdekfaaDoor
