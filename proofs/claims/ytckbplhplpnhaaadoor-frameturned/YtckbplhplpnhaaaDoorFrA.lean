/-
  The walks over whether a frame has a kind; and over its numbers.
-/
import Derived.Test.YtckbplhplpnhaaaDoorFrM
import Derived.BigQuiet
namespace Go.Proofs.YtckbplhplpnhaaaDoor
set_option linter.unusedVariables false
open Go.ChangeShapes Go.WideShapes Go.ChangeAt Go.RowKit

/-- whether it has a kind, and nothing that one of its kind lacks -/
def okK (k st : Int) (n : Nat) : Bool := decide ((k = 1 ∧ st = 0) ∨ k = 2 ∨ (k = 3 ∧ st = 0 ∧ n = 0))
theorem okK_t {k st : Int} {n : Nat} (h : (k = 1 ∧ st = 0) ∨ k = 2 ∨ (k = 3 ∧ st = 0 ∧ n = 0)) : okK k st n = true := decide_eq_true h
theorem okK_f {k st : Int} {n : Nat} (h : ¬ ((k = 1 ∧ st = 0) ∨ k = 2 ∨ (k = 3 ∧ st = 0 ∧ n = 0))) : okK k st n = false := decide_eq_false h
theorem okF_t {f : Fr} (h : (f.kind = 1 ∨ f.kind = 2 ∨ f.kind = 3) ∧ 1 ≤ f.client ∧ f.client ≤ 2147483647 ∧ 1 ≤ f.token ∧ 0 ≤ f.attempt ∧ f.attempt ≤ 5 ∧ 1 ≤ f.floor ∧ f.floor ≤ f.token ∧ 0 ≤ f.method ∧ f.method ≤ 2147483647 ∧ 0 ≤ f.deadline ∧ f.deadline ≤ 1099511627776 ∧ 0 ≤ f.status ∧ f.status ≤ 255 ∧ f.pay.length ≤ 4096 ∧ (f.kind ≠ 2 → f.status = 0) ∧ (f.kind = 3 → f.pay.length = 0)) : okF f = true := (okF_iff f).2 h
theorem okF_f {f : Fr} (h : ¬ ((f.kind = 1 ∨ f.kind = 2 ∨ f.kind = 3) ∧ 1 ≤ f.client ∧ f.client ≤ 2147483647 ∧ 1 ≤ f.token ∧ 0 ≤ f.attempt ∧ f.attempt ≤ 5 ∧ 1 ≤ f.floor ∧ f.floor ≤ f.token ∧ 0 ≤ f.method ∧ f.method ≤ 2147483647 ∧ 0 ≤ f.deadline ∧ f.deadline ≤ 1099511627776 ∧ 0 ≤ f.status ∧ f.status ≤ 255 ∧ f.pay.length ≤ 4096 ∧ (f.kind ≠ 2 → f.status = 0) ∧ (f.kind = 3 → f.pay.length = 0))) : okF f = false := Bool.eq_false_iff.2 fun e => h ((okF_iff f).1 e)
theorem okB_ret {b d : Bool} (h : d = b) : Ending.returned (.bool b) = .returned (.bool d) := by rw [h]
theorem below_two {w w1 : World} {o : Obj} (h : Below (w.alloc o).heap.size (w.alloc o) w1) : Below w.heap.size w w1 := (((Below.refl _ _).alloc (Nat.le_refl _) _)).trans (h.mono (by simp))
theorem box9 {w w1 : World} {v0 v1 v2 v3 v4 v5 v6 v7 v8 : Value} {t : TypeId} {B : Nat} (h : Below B (w.alloc (.cells #[v0, v1, v2, v3, v4, v5, v6, v7, v8] t)) w1) (hB : w.heap.size < B) : w1.cell? ⟨w.heap.size, 0, none⟩ = some v0 ∧ w1.cell? ⟨w.heap.size, 1, none⟩ = some v1 ∧ w1.cell? ⟨w.heap.size, 2, none⟩ = some v2 ∧ w1.cell? ⟨w.heap.size, 3, none⟩ = some v3 ∧ w1.cell? ⟨w.heap.size, 4, none⟩ = some v4 ∧ w1.cell? ⟨w.heap.size, 5, none⟩ = some v5 ∧ w1.cell? ⟨w.heap.size, 6, none⟩ = some v6 ∧ w1.cell? ⟨w.heap.size, 7, none⟩ = some v7 ∧ w1.cell? ⟨w.heap.size, 8, none⟩ = some v8 := by
  have hh : (w.alloc (.cells #[v0, v1, v2, v3, v4, v5, v6, v7, v8] t)).heap[w.heap.size]? = some (.cells #[v0, v1, v2, v3, v4, v5, v6, v7, v8] t) := by
    show (w.heap.push _)[w.heap.size]? = _
    simp
  refine ⟨?_, ?_, ?_, ?_, ?_, ?_, ?_, ?_, ?_⟩ <;> (rw [h.cell hB]; simp only [World.cell?, hh]; rfl)
set_option maxHeartbeats 1000000 in
theorem kind_any (k cl tk at1 fl me dl st : Int) (n : Nat) (a : Option Addr) (c : Nat) (w : World) :
    Calls Tryd.prog 23 #[.agg #[.int .i64 k, .int .i64 cl, .int .u64 tk, .int .i64 at1, .int .u64 fl, .int .i64 me, .int .i64 dl, .int .i64 st, .slice a n c]] w fun e w' => e = .returned (.bool (okK k st n)) ∧ Below w.heap.size w w' := by
  go_enter Tryd.func23, Tryd.ntmps23
  by_cases k1 : k = 1
  · subst k1
    by_cases s0 : st = 0
    · subst s0
      go_wp2
      go_ret
      exact ⟨okB_ret (okK_t (by omega)), ((Below.refl _ _).alloc (Nat.le_refl _) _)⟩
    · have hs0 : (st == (0 : Int)) = false := by simp; omega
      go_wp2
      go_ret
      exact ⟨okB_ret (okK_f (by omega)), ((Below.refl _ _).alloc (Nat.le_refl _) _)⟩
  · have hk1 : (k == (1 : Int)) = false := by simp; omega
    by_cases k2 : k = 2
    · subst k2
      go_wp2
      go_ret
      exact ⟨okB_ret (okK_t (by omega)), ((Below.refl _ _).alloc (Nat.le_refl _) _)⟩
    · have hk2 : (k == (2 : Int)) = false := by simp; omega
      by_cases k3 : k = 3
      · subst k3
        by_cases s0 : st = 0
        · subst s0
          by_cases n0 : n = 0
          · subst n0
            go_wp2
            go_ret
            exact ⟨okB_ret (okK_t (by omega)), ((Below.refl _ _).alloc (Nat.le_refl _) _)⟩
          · have hn0 : ((n : Int) == (0 : Int)) = false := by simp; omega
            go_wp2
            go_ret
            exact ⟨okB_ret (okK_f (by omega)), ((Below.refl _ _).alloc (Nat.le_refl _) _)⟩
        · have hs0 : (st == (0 : Int)) = false := by simp; omega
          go_wp2
          go_ret
          exact ⟨okB_ret (okK_f (by omega)), ((Below.refl _ _).alloc (Nat.le_refl _) _)⟩
      · have hk3 : (k == (3 : Int)) = false := by simp; omega
        go_wp2
        go_ret
        exact ⟨okB_ret (okK_f (by omega)), ((Below.refl _ _).alloc (Nat.le_refl _) _)⟩
end Go.Proofs.YtckbplhplpnhaaaDoor
