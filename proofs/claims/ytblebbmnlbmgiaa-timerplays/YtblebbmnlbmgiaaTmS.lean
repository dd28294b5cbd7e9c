/-
  The document's own timers in memory: a slice of timers that is made anew each time.
-/
import Derived.Test.YtblebbmnlbmgiaaTmR
import Derived.Laws.AppendOwnNone
namespace Go.Proofs.Ytblebbmnlbmgiaa
set_option linter.unusedVariables false
open Go.ChangeShapes Go.WideShapes Go.ChangeAt Go.RowKit

theorem infoT : (Try.prog.info? 45).map (fun i => (i.zero, i.size, i.bytes)) = some (some (.agg #[.int .u64 0, .int .i64 0]), 2, 16) := by kernel_rfl
/-- a list's cells -/
def rowsT (L : List (Nat × Int)) : List Value := L.flatMap fun x => [.int .u64 x.1, .int .i64 x.2]
theorem rowsT_len (L : List (Nat × Int)) : (rowsT L).length = L.length * 2 := by
  induction L with
  | nil => rfl
  | cons x r ih => show (rowsT r).length + 2 = _; rw [ih]; simp; omega
theorem rowsT_app (L M : List (Nat × Int)) : rowsT (L ++ M) = rowsT L ++ rowsT M := by simp [rowsT]
theorem rowsT_one (L : List (Nat × Int)) : ∀ u ∈ rowsT L, u.oneCell' = true := by
  intro u hu
  simp [rowsT] at hu
  obtain ⟨k, d, _, h | h⟩ := hu <;> (subst h; rfl)
theorem rowsT_drop (L : List (Nat × Int)) (k : Nat) : rowsT (L.drop k) = (rowsT L).drop (k * 2) := by
  induction L generalizing k with
  | nil => simp [rowsT]
  | cons x r ih =>
    cases k with
    | zero => simp
    | succ k => show rowsT (r.drop k) = (Value.int .u64 x.1 :: Value.int .i64 x.2 :: rowsT r).drop ((k + 1) * 2); rw [ih, show (k + 1) * 2 = k * 2 + 1 + 1 by omega]; rfl
theorem rowsT_take (L : List (Nat × Int)) (k : Nat) : rowsT (L.take k) = (rowsT L).take (k * 2) := by
  induction L generalizing k with
  | nil => simp [rowsT]
  | cons x r ih =>
    cases k with
    | zero => simp [rowsT]
    | succ k => show Value.int .u64 x.1 :: Value.int .i64 x.2 :: rowsT (r.take k) = (Value.int .u64 x.1 :: Value.int .i64 x.2 :: rowsT r).take ((k + 1) * 2); rw [ih, show (k + 1) * 2 = k * 2 + 1 + 1 by omega]; rfl
theorem rowsT_at {L : List (Nat × Int)} {i : Nat} {x : Nat × Int} (h : L[i]? = some x) : (rowsT L)[i * 2]? = some (.int .u64 x.1) ∧ (rowsT L)[i * 2 + 1]? = some (.int .i64 x.2) := by
  induction L generalizing i with
  | nil => simp at h
  | cons y r ih =>
    cases i with
    | zero => simp at h; subst h; exact ⟨rfl, rfl⟩
    | succ i =>
      have := ih (i := i) (by simpa using h)
      show (Value.int .u64 y.1 :: Value.int .i64 y.2 :: rowsT r)[(i + 1) * 2]? = _ ∧ (Value.int .u64 y.1 :: Value.int .i64 y.2 :: rowsT r)[(i + 1) * 2 + 1]? = _
      rw [show (i + 1) * 2 = i * 2 + 1 + 1 by omega]
      simpa using this
/-- a slice in memory has just the list's timers -/
def SlT (w : World) (v : Value) (L : List (Nat × Int)) : Prop :=
  ∃ ao c, v = .slice ao L.length c ∧ L.length ≤ c ∧ c ≤ maxLen ∧ ((ao = none ∧ L.length = 0 ∧ c = 0) ∨ ∃ g o, ao = some ⟨g, o, none⟩ ∧ ∀ j u, (rowsT L)[j]? = some u → w.cell? ⟨g, o + j, none⟩ = some u)
/-- a slice that is one's own, of new memory from base on -/
def OwnT (w : World) (base : Nat) (v : Value) (L : List (Nat × Int)) : Prop := w.ownsRow base 45 2 v L.length (rowsT L)
theorem OwnT.slT {w : World} {base : Nat} {v : Value} {L : List (Nat × Int)} (h : OwnT w base v L) : SlT w v L := by
  obtain ⟨h1, ⟨rfl, h0⟩ | ⟨g, cap, cur, rfl, hg, hc, hn, hm, hs, ht⟩⟩ := h
  · exact ⟨none, 0, by rw [h0], by omega, by decide, .inl ⟨rfl, h0, rfl⟩⟩
  · refine ⟨_, cap, rfl, hn, hm, .inr ⟨g, 0, rfl, fun j u hu => ?_⟩⟩
    refine cell_at hc _ ?_
    rw [Nat.zero_add]
    rw [← ht, List.getElem?_take] at hu
    split at hu
    · exact hu
    · cases hu
theorem OwnT.block {w : World} {base : Nat} {v : Value} {L : List (Nat × Int)} (h : OwnT w base v L) {g : Nat} (hg : v.ownBlock = some g) : base ≤ g ∧ g < w.heap.size := by
  obtain ⟨h1, ⟨rfl, h0⟩ | ⟨g', cap, cur, rfl, hb, hc, hn, hm, hs, ht⟩⟩ := h
  · cases hg
  · obtain rfl := Option.some.inj hg
    refine ⟨hb, ?_⟩
    by_cases hl : g' < w.heap.size
    · exact hl
    · rw [Array.getElem?_eq_none (by omega)] at hc; cases hc
theorem OwnT.old {w w' : World} {base b2 : Nat} {v : Value} {L : List (Nat × Int)} (h : OwnT w base v L) (hb : ∀ g, v.ownBlock = some g → w'.heap[g]? = w.heap[g]?) (h2 : ∀ g, v.ownBlock = some g → b2 ≤ g) : OwnT w' b2 v L := by
  obtain ⟨h1, ⟨rfl, h0⟩ | ⟨g, cap, cur, rfl, hg, hc, rest⟩⟩ := h
  · exact ⟨h1, .inl ⟨rfl, h0⟩⟩
  · exact ⟨h1, .inr ⟨g, cap, cur, rfl, h2 g rfl, by rw [hb g rfl]; exact hc, rest⟩⟩
theorem ownT_nil (w : World) (base : Nat) : OwnT w base (.slice none 0 0) [] := ⟨rfl, .inl ⟨rfl, rfl⟩⟩
theorem ownT_lit (w : World) (base g : Nat) (hg : base ≤ g) (h : w.heap[g]? = some (.cells #[] 45 (0, 0))) : OwnT w base (.slice (some ⟨g, 0, none⟩) 0 0) [] :=
  ⟨rfl, .inr ⟨g, 0, #[], rfl, hg, h, Nat.le_refl _, by decide, rfl, rfl⟩⟩
theorem SlT.old {w w' : World} {v : Value} {L : List (Nat × Int)} (h : SlT w v L) (hb : ∀ g o n c, v = .slice (some ⟨g, o, none⟩) n c → L ≠ [] → w'.heap[g]? = w.heap[g]?) : SlT w' v L := by
  obtain ⟨ao, c, rfl, h1, h2, h3 | ⟨g, o, rfl, h3⟩⟩ := h
  · exact ⟨ao, c, rfl, h1, h2, .inl h3⟩
  · refine ⟨_, c, rfl, h1, h2, .inr ⟨g, o, rfl, fun j u hu => ?_⟩⟩
    have hne : L ≠ [] := by rintro rfl; simp [rowsT] at hu
    rw [World.cell?_of_block (hb g o _ c rfl hne)]
    exact h3 j u hu
/-- an append to a slice of one's own -/
theorem runT_append (w : World) (ty : TypeId) (base : Nat) (v x : Value) (L M : List (Nat × Int)) (hown : OwnT w base v L) (hx : SlT w x M) (hm : L.length + M.length ≤ 1000000) (hbase : base ≤ w.heap.size) :
    ∃ v' w', (Builtin.append_ #[27, 27] ty #[v, x]).run Try.prog w = .ok v' w' ∧ OwnT w' base v' (L ++ M) ∧ Below base w w' := by
  obtain ⟨i0, hi, hz0, hz1, hz2⟩ := info_parts infoT
  obtain ⟨ao, c, rfl, h1, h2, ⟨rfl, h0, rfl⟩ | ⟨g, o, rfl, h3⟩⟩ := hx
  · have hM : M = [] := List.eq_nil_of_length_eq_zero h0
    subst hM
    refine ⟨v, w, ?_, by simpa using hown, Below.refl _ _⟩
    exact run_append_owned_none (P := Try.prog) (w := w) base 27 ty _ i0 2 Try.underlying27 hi v _ _ hown
  · obtain ⟨v', w', hr, a1, a2, _, a4⟩ := run_append_own_at (P := Try.prog) w base 27 ty _ i0 _ 2 16 Try.underlying27 hi hz0 hz1 hz2 rfl (by decide) v _ _ hown ⟨g, o, none⟩ M.length c (rowsT M) (rowsT_len M)
      (fun j u hu => by
        have e : (⟨g, o, none⟩ : Addr).add j = ⟨g, o + j, none⟩ := by unfold Addr.add; split <;> simp_all
        rw [e]; exact h3 j u hu) (rowsT_one M) (by unfold maxLen; omega) (by omega) hbase
    refine ⟨v', w', hr, ?_, (Below.refl base w).grown a2 hbase fun k hk => (hown.block hk).1⟩
    unfold OwnT
    rw [List.length_append, rowsT_app]
    exact a1
end Go.Proofs.Ytblebbmnlbmgiaa
