/-
  Timers as plain data: a tree of timers by the bits of their keys, and a list of them in the order in which they are due. Nothing is proved of the program here.
-/
import Derived.WalkKit
import Derived.ProofKit
import Derived.Below
import Derived.Laws.BitsAllLaws
import Derived.Lib.Hide
namespace Go.Proofs.Ytblebbmnlbmgiaa
set_option linter.unusedVariables false
open Go.ChangeShapes Go.WideShapes Go.ChangeAt Go.RowKit

inductive Tr where
  | leaf (k : Nat) (d : Int)
  | bin (k : Nat) (d : Int) (s : Nat) (a b : Tr)
namespace Tr
def fk : Tr → Nat
  | leaf k _ => k
  | bin k _ _ _ _ => k
def fd : Tr → Int
  | leaf _ d => d
  | bin _ d _ _ _ => d
def span : Tr → Nat
  | leaf _ _ => 0
  | bin _ _ s _ _ => s
def Mem : Tr → Nat → Int → Prop
  | leaf k d, k', d' => k' = k ∧ d' = d
  | bin _ _ _ a b, k', d' => a.Mem k' d' ∨ b.Mem k' d'
/-- all keys are the same, but for the last s bits -/
def Agree (t : Tr) (s p : Nat) : Prop := ∀ k d, t.Mem k d → k / 2 ^ s = p
/-- the earliest timer, of as early ones that of the least key -/
def Least (t : Tr) (k : Nat) (d : Int) : Prop := t.Mem k d ∧ ∀ k' d', t.Mem k' d' → d < d' ∨ d = d' ∧ k ≤ k'
def WF : Tr → Prop
  | leaf k d => k < 18446744073709551616
  | bin k d s a b => a.WF ∧ b.WF ∧ 1 ≤ s ∧ s ≤ 64 ∧ (∃ p, a.Agree (s - 1) (2 * p) ∧ b.Agree (s - 1) (2 * p + 1)) ∧ (bin k d s a b).Least k d

theorem WF.least {t : Tr} (h : t.WF) : t.Least t.fk t.fd := by
  cases t with
  | leaf k d => exact ⟨⟨rfl, rfl⟩, fun k' d' h => .inr ⟨h.2.symm, by have := h.1; show k ≤ k'; omega⟩⟩
  | bin k d s a b => exact h.2.2.2.2.2
theorem WF.lt {t : Tr} (h : t.WF) {k : Nat} {d : Int} (hm : t.Mem k d) : k < 18446744073709551616 := by
  induction t with
  | leaf k' d' => have := hm.1; have h : k' < _ := h; omega
  | bin k' d' s a b iha ihb =>
    rcases hm with hm | hm
    · exact iha h.1 hm
    · exact ihb h.2.1 hm
theorem WF.fk_lt {t : Tr} (h : t.WF) : t.fk < 18446744073709551616 := h.lt h.least.1
theorem Agree.up {t : Tr} {s p : Nat} (h : t.Agree s p) (j : Nat) : t.Agree (s + j) (p / 2 ^ j) := by
  intro k d hm
  rw [← h k d hm, Nat.div_div_eq_div_mul, Nat.pow_add]
/-- whatever a tree's keys have in common, its span is below it -/
theorem WF.span_le {t : Tr} (h : t.WF) {m p : Nat} (ha : t.Agree m p) : t.span ≤ m := by
  cases t with
  | leaf k d => exact Nat.zero_le _
  | bin k d s a b =>
    obtain ⟨h1, h2, h3, h4, ⟨q, hqa, hqb⟩, _⟩ := h
    show s ≤ m
    by_cases hs : s ≤ m
    · exact hs
    · have e1 := hqa _ _ h1.least.1
      have e2 := hqb _ _ h2.least.1
      have f1 := ha.up (s - 1 - m) _ _ (Or.inl h1.least.1)
      have f2 := ha.up (s - 1 - m) _ _ (Or.inr h2.least.1)
      rw [show m + (s - 1 - m) = s - 1 by omega] at f1 f2
      omega
theorem WF.agree {t : Tr} (h : t.WF) : t.Agree t.span (t.fk / 2 ^ t.span) := by
  cases t with
  | leaf k d => intro k' d' hm; rw [hm.1]; rfl
  | bin k d s a b =>
    obtain ⟨h1, h2, h3, h4, ⟨q, hqa, hqb⟩, hl⟩ := h
    have key : ∀ k' d', (bin k d s a b).Mem k' d' → k' / 2 ^ s = q := by
      intro k' d' hm
      have e : k' / 2 ^ s = k' / 2 ^ (s - 1) / 2 := by
        rw [Nat.div_div_eq_div_mul, ← Nat.pow_succ, Nat.succ_eq_add_one, Nat.sub_add_cancel (by omega)]
      rcases hm with hm | hm
      · rw [e, hqa _ _ hm]; omega
      · rw [e, hqb _ _ hm]; omega
    intro k' d' hm
    show k' / 2 ^ s = k / 2 ^ s
    rw [key _ _ hm, key _ _ hl.1]
/-- of a key that isn't on a tree's way, the tree holds nothing -/
theorem WF.not_of {t : Tr} (h : t.WF) {k : Nat} (hk : k / 2 ^ t.span ≠ t.fk / 2 ^ t.span) (d : Int) : ¬ t.Mem k d := fun hm => hk (h.agree _ _ hm)
theorem half (k s : Nat) (h : 1 ≤ s) : k / 2 ^ (s - 1) / 2 = k / 2 ^ s := by
  rw [Nat.div_div_eq_div_mul, ← Nat.pow_succ, Nat.succ_eq_add_one, Nat.sub_add_cancel (by omega)]
/-- which side a key lies on -/
theorem WF.side {k : Nat} {d : Int} {s : Nat} {a b : Tr} (h : (bin k d s a b).WF) {k' : Nat} {d' : Int} :
    (k' / 2 ^ (s - 1) % 2 = 0 → ((bin k d s a b).Mem k' d' ↔ a.Mem k' d')) ∧ (k' / 2 ^ (s - 1) % 2 = 1 → ((bin k d s a b).Mem k' d' ↔ b.Mem k' d')) := by
  obtain ⟨h1, h2, h3, h4, ⟨q, hqa, hqb⟩, hl⟩ := h
  constructor
  · intro e
    refine ⟨fun hm => hm.elim id fun hm => ?_, .inl⟩
    have := hqb _ _ hm; omega
  · intro e
    refine ⟨fun hm => hm.elim (fun hm => ?_) id, .inr⟩
    have := hqa _ _ hm; omega
theorem WF.one {t : Tr} (h : t.WF) {k : Nat} {d d' : Int} (h1 : t.Mem k d) (h2 : t.Mem k d') : d = d' := by
  induction t with
  | leaf k' e => rw [h1.2, h2.2]
  | bin k' e s a b iha ihb =>
    obtain ⟨hs0, hs1⟩ := WF.side h (k' := k) (d' := d)
    obtain ⟨hs2, hs3⟩ := WF.side h (k' := k) (d' := d')
    rcases (by omega : k / 2 ^ (s - 1) % 2 = 0 ∨ k / 2 ^ (s - 1) % 2 = 1) with e0 | e0
    · exact iha h.1 ((hs0 e0).1 h1) ((hs2 e0).1 h2)
    · exact ihb h.2.1 ((hs1 e0).1 h1) ((hs3 e0).1 h2)
/-- two trees as one, the one of the lesser keys first -/
def two (s : Nat) (a b : Tr) : Tr := if b.fd < a.fd then bin b.fk b.fd s a b else bin a.fk a.fd s a b
theorem two_mem (s : Nat) (a b : Tr) (k : Nat) (d : Int) : (two s a b).Mem k d ↔ a.Mem k d ∨ b.Mem k d := by
  unfold two; split <;> exact Iff.rfl
theorem two_wf {s : Nat} {a b : Tr} {p : Nat} (ha : a.WF) (hb : b.WF) (h1 : 1 ≤ s) (h2 : s ≤ 64) (hpa : a.Agree (s - 1) (2 * p)) (hpb : b.Agree (s - 1) (2 * p + 1)) : (two s a b).WF := by
  have la := ha.least
  have lb := hb.least
  have hlt : ∀ k d k' d', a.Mem k d → b.Mem k' d' → k < k' := by
    intro k d k' d' hm hm'
    have e1 := hpa _ _ hm
    have e2 := hpb _ _ hm'
    by_cases h : k < k'
    · exact h
    · have := Nat.div_le_div_right (c := 2 ^ (s - 1)) (show k' ≤ k by omega)
      omega
  unfold two
  split
  · rename_i hd
    refine ⟨ha, hb, h1, h2, ⟨p, hpa, hpb⟩, .inr lb.1, ?_⟩
    intro k' d' hm
    rcases hm with hm | hm
    · rcases la.2 _ _ hm with h | h
      · exact .inl (by omega)
      · exact .inl (by omega)
    · exact lb.2 _ _ hm
  · rename_i hd
    refine ⟨ha, hb, h1, h2, ⟨p, hpa, hpb⟩, .inl la.1, ?_⟩
    intro k' d' hm
    rcases hm with hm | hm
    · exact la.2 _ _ hm
    · have hk := hlt _ _ _ _ la.1 hm
      rcases lb.2 _ _ hm with h | h
      · exact .inl (by omega)
      · by_cases he : a.fd < d'
        · exact .inl he
        · exact .inr ⟨by omega, by omega⟩
end Tr
/-- where two keys part: they are the same but for the last s bits, and not but for the s - 1 last -/
theorem part_at {x y : Nat} {s : Nat} (h : x ^^^ y < 2 ^ s) : x / 2 ^ s = y / 2 ^ s := by
  apply Nat.eq_of_testBit_eq
  intro i
  rw [Nat.testBit_div_two_pow, Nat.testBit_div_two_pow]
  have := Nat.testBit_lt_two_pow (i := i + s) (Nat.lt_of_lt_of_le h (Nat.pow_le_pow_right (by decide) (Nat.le_add_left s i)))
  rw [Nat.testBit_xor] at this
  simpa using this
theorem part_not {x y : Nat} {s : Nat} (h : 2 ^ s ≤ x ^^^ y) : x / 2 ^ s ≠ y / 2 ^ s := by
  intro e
  have h0 : (x ^^^ y) / 2 ^ s = 0 := by
    apply Nat.eq_of_testBit_eq
    intro i
    rw [Nat.testBit_div_two_pow, Nat.testBit_xor]
    have := congrArg (Nat.testBit · i) e
    simp only [Nat.testBit_div_two_pow] at this
    rw [this]; simp
  have := Nat.div_pos h (Nat.two_pow_pos s)
  omega

/-- the list without a key -/
def stopL (L : List (Nat × Int)) (k : Nat) : List (Nat × Int) := L.filter fun x => x.1 != k
/-- the order of what is due -/
def before (x y : Nat × Int) : Prop := x.2 < y.2 ∨ x.2 = y.2 ∧ x.1 < y.1
instance (x y : Nat × Int) : Decidable (before x y) := by unfold before; infer_instance
def putL (x : Nat × Int) : List (Nat × Int) → List (Nat × Int)
  | [] => [x]
  | y :: r => if before y x then y :: putL x r else x :: y :: r
def setL (L : List (Nat × Int)) (k : Nat) (d : Int) : List (Nat × Int) := putL (k, d) (stopL L k)
/-- in order, each key once -/
def OrdL (L : List (Nat × Int)) : Prop := L.Pairwise before ∧ L.Pairwise fun x y => x.1 ≠ y.1
theorem mem_put (x z : Nat × Int) (L : List (Nat × Int)) : z ∈ putL x L ↔ z = x ∨ z ∈ L := by
  induction L with
  | nil => simp [putL]
  | cons y r ih =>
    unfold putL
    split
    · simp only [List.mem_cons, ih]; constructor <;> (intro h; rcases h with h | h | h <;> simp [h])
    · simp
theorem len_put (x : Nat × Int) (L : List (Nat × Int)) : (putL x L).length = L.length + 1 := by
  induction L with
  | nil => rfl
  | cons y r ih => unfold putL; split <;> simp [ih]
theorem before_trans {x y z : Nat × Int} (h : before x y) (k : before y z) : before x z := by unfold before at *; omega
theorem before_not {x y : Nat × Int} (h : ¬ before y x) (hk : y.1 ≠ x.1) : before x y := by unfold before at *; omega
theorem ordL_put {x : Nat × Int} {L : List (Nat × Int)} (h : OrdL L) (hx : ∀ y ∈ L, y.1 ≠ x.1) : OrdL (putL x L) := by
  obtain ⟨h1, h2⟩ := h
  induction L with
  | nil => simp [putL, OrdL]
  | cons y r ih =>
    rw [List.pairwise_cons] at h1 h2
    obtain ⟨i1, i2⟩ := ih (fun z hz => hx z (List.mem_cons_of_mem _ hz)) h1.2 h2.2
    unfold putL
    split
    · rename_i hb
      refine ⟨List.pairwise_cons.2 ⟨fun z hz => ?_, i1⟩, List.pairwise_cons.2 ⟨fun z hz => ?_, i2⟩⟩
      · rcases (mem_put _ _ _).1 hz with rfl | hz
        · exact hb
        · exact h1.1 z hz
      · rcases (mem_put _ _ _).1 hz with rfl | hz
        · exact hx y List.mem_cons_self
        · exact h2.1 z hz
    · rename_i hb
      have hxy : before x y := before_not hb (hx y List.mem_cons_self)
      refine ⟨List.pairwise_cons.2 ⟨fun z hz => ?_, List.pairwise_cons.2 h1⟩, List.pairwise_cons.2 ⟨fun z hz => ?_, List.pairwise_cons.2 h2⟩⟩
      · rcases List.mem_cons.1 hz with rfl | hz
        · exact hxy
        · exact before_trans hxy (h1.1 z hz)
      · exact fun e => hx z hz e.symm
theorem mem_stop (L : List (Nat × Int)) (k : Nat) (z : Nat × Int) : z ∈ stopL L k ↔ z ∈ L ∧ z.1 ≠ k := by simp [stopL]
theorem ordL_stop {L : List (Nat × Int)} (h : OrdL L) (k : Nat) : OrdL (stopL L k) := ⟨h.1.sublist List.filter_sublist, h.2.sublist List.filter_sublist⟩
theorem ordL_set {L : List (Nat × Int)} (h : OrdL L) (k : Nat) (d : Int) : OrdL (setL L k d) := ordL_put (ordL_stop h k) fun y hy => ((mem_stop _ _ _).1 hy).2
theorem mem_set (L : List (Nat × Int)) (k : Nat) (d : Int) (z : Nat × Int) : z ∈ setL L k d ↔ z = (k, d) ∨ z ∈ L ∧ z.1 ≠ k := by
  unfold setL; rw [mem_put, mem_stop]
/-- a key at place i is there once: without it, the list is what lies ahead of it and behind it -/
theorem stop_at {L : List (Nat × Int)} (h : OrdL L) {i : Nat} {k : Nat} {d : Int} (hi : L[i]? = some (k, d)) : stopL L k = L.take i ++ L.drop (i + 1) := by
  have h2 := h.2
  clear h
  induction L generalizing i with
  | nil => simp at hi
  | cons y r ih =>
    rw [List.pairwise_cons] at h2
    cases i with
    | zero =>
      simp at hi
      subst hi
      have : stopL r k = r := List.filter_eq_self.2 fun z hz => by have := h2.1 z hz; simpa using fun e => this e.symm
      simp only [stopL] at *
      simp [this]
    | succ i =>
      have hi' : r[i]? = some (k, d) := by simpa using hi
      have hy : y.1 ≠ k := h2.1 _ (List.mem_of_getElem? hi')
      have := ih hi' h2.2
      simp only [stopL] at *
      simp [hy, this]
theorem stop_none {L : List (Nat × Int)} {k : Nat} (h : ∀ z ∈ L, z.1 ≠ k) : stopL L k = L := List.filter_eq_self.2 fun z hz => by simpa using h z hz
theorem len_stop {L : List (Nat × Int)} (h : OrdL L) {k : Nat} {d : Int} (hm : (k, d) ∈ L) : (stopL L k).length + 1 = L.length := by
  obtain ⟨i, hi⟩ := List.getElem?_of_mem hm
  rw [stop_at h hi]
  have : i < L.length := by
    by_cases hl : i < L.length
    · exact hl
    · rw [List.getElem?_eq_none (by omega)] at hi; simp at hi
  simp; omega
/-- as many as go ahead of x -/
def goes (x : Nat × Int) : List (Nat × Int) → Nat
  | [] => 0
  | y :: r => if before y x then goes x r + 1 else 0
theorem goes_le (x : Nat × Int) (L : List (Nat × Int)) : goes x L ≤ L.length := by
  induction L with
  | nil => exact Nat.le_refl _
  | cons y r ih => unfold goes; split <;> simp; exact ih
theorem put_goes (x : Nat × Int) (L : List (Nat × Int)) : putL x L = L.take (goes x L) ++ x :: L.drop (goes x L) := by
  induction L with
  | nil => rfl
  | cons y r ih => unfold putL goes; split <;> simp [ih]
/-- whether a key is there, and when it is due -/
def dueL (L : List (Nat × Int)) (k : Nat) : Option Int := (L.find? fun x => x.1 == k).map (·.2)
theorem due_some {L : List (Nat × Int)} (h : OrdL L) {k : Nat} {d : Int} (hm : (k, d) ∈ L) : dueL L k = some d := by
  unfold dueL
  cases e : L.find? fun x => x.1 == k with
  | none => have := List.find?_eq_none.1 e _ hm; simp at this
  | some z =>
    have h1 := List.mem_of_find?_eq_some e
    have h2 : z.1 = k := by simpa using List.find?_some e
    obtain ⟨i, hi⟩ := List.getElem?_of_mem h1
    obtain ⟨j, hj⟩ := List.getElem?_of_mem hm
    have hij : i = j := by
      obtain ⟨hi', ei⟩ := List.getElem?_eq_some_iff.1 hi
      obtain ⟨hj', ej⟩ := List.getElem?_eq_some_iff.1 hj
      rcases Nat.lt_trichotomy i j with hlt | rfl | hlt
      · have := List.pairwise_iff_getElem.1 h.2 i j hi' hj' hlt
        rw [ei, ej] at this; exact absurd h2 this
      · rfl
      · have := List.pairwise_iff_getElem.1 h.2 j i hj' hi' hlt
        rw [ei, ej] at this; exact absurd h2.symm this
    subst hij
    rw [hi] at hj
    rw [Option.some.inj hj]; rfl
theorem due_none {L : List (Nat × Int)} {k : Nat} (h : ∀ z ∈ L, z.1 ≠ k) : dueL L k = none := by
  unfold dueL
  rw [List.find?_eq_none.2 fun z hz => by simpa using h z hz]; rfl
/-- a tree, or none, has just the timers of a list -/
def MemO (T : Option Tr) (k : Nat) (d : Int) : Prop := ∃ t, T = some t ∧ t.Mem k d
def Rel (T : Option Tr) (L : List (Nat × Int)) : Prop := (∀ t, T = some t → t.WF) ∧ (∀ k d, MemO T k d ↔ (k, d) ∈ L) ∧ OrdL L
theorem Rel.none_iff {T : Option Tr} {L : List (Nat × Int)} (h : Rel T L) : T = none ↔ L = [] := by
  constructor
  · rintro rfl
    cases L with
    | nil => rfl
    | cons x r => obtain ⟨t, e, _⟩ := (h.2.1 x.1 x.2).2 (by simp); cases e
  · rintro rfl
    cases T with
    | none => rfl
    | some t => have := (h.2.1 _ _).1 ⟨t, rfl, (h.1 t rfl).least.1⟩; simp at this
theorem Rel.first {t : Tr} {x : Nat × Int} {r : List (Nat × Int)} (h : Rel (some t) (x :: r)) : t.fk = x.1 ∧ t.fd = x.2 := by
  have hl := (h.1 t rfl).least
  have h1 := (h.2.1 _ _).1 ⟨t, rfl, hl.1⟩
  obtain ⟨t', e, h2⟩ := (h.2.1 x.1 x.2).2 (by simp)
  obtain rfl := Option.some.inj e
  have h3 := hl.2 _ _ h2
  rcases List.mem_cons.1 h1 with h1 | h1
  · rw [← h1]; exact ⟨rfl, rfl⟩
  · have := (List.pairwise_cons.1 h.2.2.1).1 _ h1
    unfold before at this
    simp at this
    omega
theorem rel_stop {t : Tr} {T' : Option Tr} {L : List (Nat × Int)} {k : Nat} (h : Rel (some t) L) (hw : ∀ t', T' = some t' → t'.WF) (hm : ∀ k' d', MemO T' k' d' ↔ k' ≠ k ∧ t.Mem k' d') : Rel T' (stopL L k) := by
  refine ⟨hw, fun k' d' => ?_, ordL_stop h.2.2 k⟩
  rw [hm, mem_stop]
  have := h.2.1 k' d'
  constructor
  · exact fun h' => ⟨this.1 ⟨t, rfl, h'.2⟩, h'.1⟩
  · intro h'
    obtain ⟨t', e, h2⟩ := this.2 h'.1
    obtain rfl := Option.some.inj e
    exact ⟨h'.2, h2⟩
theorem rel_set {T : Option Tr} {t' : Tr} {L : List (Nat × Int)} {k : Nat} {d : Int} (h : Rel T L) (hw : t'.WF) (hm : ∀ k' d', t'.Mem k' d' ↔ k' = k ∧ d' = d ∨ k' ≠ k ∧ MemO T k' d') : Rel (some t') (setL L k d) := by
  refine ⟨fun t e => by obtain rfl := Option.some.inj e; exact hw, fun k' d' => ?_, ordL_set h.2.2 k d⟩
  rw [mem_set]
  have := h.2.1 k' d'
  constructor
  · rintro ⟨t, e, h2⟩
    obtain rfl := Option.some.inj e
    rcases (hm k' d').1 h2 with h3 | h3
    · exact .inl (by rw [h3.1, h3.2])
    · exact .inr ⟨this.1 h3.2, h3.1⟩
  · intro h'
    refine ⟨t', rfl, (hm k' d').2 ?_⟩
    rcases h' with h' | h'
    · exact .inl (by simpa using h')
    · exact .inr ⟨h'.2, this.2 h'.1⟩
theorem rel_nil : Rel none [] := by
  refine ⟨fun t e => (by cases e), fun k d => ⟨fun h => ?_, fun h => by simp at h⟩, ⟨List.Pairwise.nil, List.Pairwise.nil⟩⟩
  obtain ⟨t, e, _⟩ := h
  cases e
end Go.Proofs.Ytblebbmnlbmgiaa
