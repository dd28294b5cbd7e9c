/-
  Whether a frame is formed, by the program.
-/
import Derived.Test.YtckbplhplpnhaaaDoorFrB0
import Derived.Test.YtckbplhplpnhaaaDoorFrB1
import Derived.Test.YtckbplhplpnhaaaDoorFrB2
import Derived.Test.YtckbplhplpnhaaaDoorFrB3
namespace Go.Proofs.YtckbplhplpnhaaaDoor
set_option linter.unusedVariables false
open Go.ChangeShapes Go.WideShapes Go.ChangeAt Go.RowKit

theorem formed_any (k cl tk at1 fl me dl st : Int) (p : List Int) (a : Option Addr) (c : Nat) (w : World) :
    Calls Tryd.prog 12 #[.agg #[.int .i64 k, .int .i64 cl, .int .u64 tk, .int .i64 at1, .int .u64 fl, .int .i64 me, .int .i64 dl, .int .i64 st, .slice a p.length c]] w fun e w' => e = .returned (.bool (okF ⟨k, cl, tk, at1, fl, me, dl, st, p⟩)) ∧ Below w.heap.size w w' := by
  obtain ⟨b, hb⟩ : ∃ b, okK k st p.length = b := ⟨_, rfl⟩
  cases b with
  | false =>
    have hx := of_decide_eq_false hb
    rw [okF_f (by simp only; omega)]
    exact formed_k k cl tk at1 fl me dl st p.length a c w hb
  | true =>
    have hx := of_decide_eq_true hb
    by_cases c0 : 1 ≤ cl
    case neg =>
      rw [okF_f (by simp only; omega)]
      exact formed_n0 k cl tk at1 fl me dl st p.length a c w hb  (decide_eq_false c0)
    by_cases c1 : cl ≤ 2147483647
    case neg =>
      rw [okF_f (by simp only; omega)]
      exact formed_n1 k cl tk at1 fl me dl st p.length a c w hb c0 (decide_eq_false c1)
    by_cases c2 : 1 ≤ tk
    case neg =>
      rw [okF_f (by simp only; omega)]
      exact formed_n2 k cl tk at1 fl me dl st p.length a c w hb c0 c1 (decide_eq_false c2)
    by_cases c3 : 0 ≤ at1
    case neg =>
      rw [okF_f (by simp only; omega)]
      exact formed_n3 k cl tk at1 fl me dl st p.length a c w hb c0 c1 c2 (decide_eq_false c3)
    by_cases c4 : at1 < 6
    case neg =>
      rw [okF_f (by simp only; omega)]
      exact formed_n4 k cl tk at1 fl me dl st p.length a c w hb c0 c1 c2 c3 (decide_eq_false c4)
    by_cases c5 : 1 ≤ fl
    case neg =>
      rw [okF_f (by simp only; omega)]
      exact formed_n5 k cl tk at1 fl me dl st p.length a c w hb c0 c1 c2 c3 c4 (decide_eq_false c5)
    by_cases c6 : fl ≤ tk
    case neg =>
      rw [okF_f (by simp only; omega)]
      exact formed_n6 k cl tk at1 fl me dl st p.length a c w hb c0 c1 c2 c3 c4 c5 (decide_eq_false c6)
    by_cases c7 : 0 ≤ me
    case neg =>
      rw [okF_f (by simp only; omega)]
      exact formed_n7 k cl tk at1 fl me dl st p.length a c w hb c0 c1 c2 c3 c4 c5 c6 (decide_eq_false c7)
    by_cases c8 : me ≤ 2147483647
    case neg =>
      rw [okF_f (by simp only; omega)]
      exact formed_n8 k cl tk at1 fl me dl st p.length a c w hb c0 c1 c2 c3 c4 c5 c6 c7 (decide_eq_false c8)
    by_cases c9 : 0 ≤ dl
    case neg =>
      rw [okF_f (by simp only; omega)]
      exact formed_n9 k cl tk at1 fl me dl st p.length a c w hb c0 c1 c2 c3 c4 c5 c6 c7 c8 (decide_eq_false c9)
    by_cases c10 : dl ≤ 1099511627776
    case neg =>
      rw [okF_f (by simp only; omega)]
      exact formed_n10 k cl tk at1 fl me dl st p.length a c w hb c0 c1 c2 c3 c4 c5 c6 c7 c8 c9 (decide_eq_false c10)
    by_cases c11 : 0 ≤ st
    case neg =>
      rw [okF_f (by simp only; omega)]
      exact formed_n11 k cl tk at1 fl me dl st p.length a c w hb c0 c1 c2 c3 c4 c5 c6 c7 c8 c9 c10 (decide_eq_false c11)
    by_cases c12 : st ≤ 255
    case neg =>
      rw [okF_f (by simp only; omega)]
      exact formed_n12 k cl tk at1 fl me dl st p.length a c w hb c0 c1 c2 c3 c4 c5 c6 c7 c8 c9 c10 c11 (decide_eq_false c12)
    by_cases c13 : (p.length : Int) ≤ 4096
    case neg =>
      rw [okF_f (by simp only; omega)]
      exact formed_n13 k cl tk at1 fl me dl st p.length a c w hb c0 c1 c2 c3 c4 c5 c6 c7 c8 c9 c10 c11 c12 (decide_eq_false c13)
    rw [okF_t (by simp only; omega)]
    exact formed_n14 k cl tk at1 fl me dl st p.length a c w hb c0 c1 c2 c3 c4 c5 c6 c7 c8 c9 c10 c11 c12 c13
end Go.Proofs.YtckbplhplpnhaaaDoor
