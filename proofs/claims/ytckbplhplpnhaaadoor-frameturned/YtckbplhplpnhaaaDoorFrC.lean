/-
  Whether a frame is formed, by the document's own.
-/
import Derived.Test.YtckbplhplpnhaaaDoorFrC0
import Derived.Test.YtckbplhplpnhaaaDoorFrC1
import Derived.Test.YtckbplhplpnhaaaDoorFrC2
import Derived.Test.YtckbplhplpnhaaaDoorFrC3
namespace Go.Proofs.YtckbplhplpnhaaaDoor
set_option linter.unusedVariables false
open Go.ChangeShapes Go.WideShapes Go.ChangeAt Go.RowKit

theorem formedR_any (k cl tk at1 fl me dl st : Int) (p : List Int) (a : Option Addr) (c : Nat) (w : World) :
    Calls Tryd.prog 13 #[.agg #[.int .i64 k, .int .i64 cl, .int .u64 tk, .int .i64 at1, .int .u64 fl, .int .i64 me, .int .i64 dl, .int .i64 st, .slice a p.length c]] w fun e w' => e = .returned (.bool (okF ⟨k, cl, tk, at1, fl, me, dl, st, p⟩)) ∧ Below w.heap.size w w' := by
  by_cases c0 : k < 1
  case pos =>
    rw [okF_f (by simp only; omega)]
    exact formedR_n0 k cl tk at1 fl me dl st p.length a c w  c0
  by_cases c1 : 3 < k
  case pos =>
    rw [okF_f (by simp only; omega)]
    exact formedR_n1 k cl tk at1 fl me dl st p.length a c w (decide_eq_false c0) c1
  by_cases c2 : cl < 1
  case pos =>
    rw [okF_f (by simp only; omega)]
    exact formedR_n2 k cl tk at1 fl me dl st p.length a c w (decide_eq_false c0) (decide_eq_false c1) c2
  by_cases c3 : 2147483647 < cl
  case pos =>
    rw [okF_f (by simp only; omega)]
    exact formedR_n3 k cl tk at1 fl me dl st p.length a c w (decide_eq_false c0) (decide_eq_false c1) (decide_eq_false c2) c3
  by_cases c4 : tk < 1
  case pos =>
    rw [okF_f (by simp only; omega)]
    exact formedR_n4 k cl tk at1 fl me dl st p.length a c w (decide_eq_false c0) (decide_eq_false c1) (decide_eq_false c2) (decide_eq_false c3) c4
  by_cases c5 : at1 < 0
  case pos =>
    rw [okF_f (by simp only; omega)]
    exact formedR_n5 k cl tk at1 fl me dl st p.length a c w (decide_eq_false c0) (decide_eq_false c1) (decide_eq_false c2) (decide_eq_false c3) (decide_eq_false c4) c5
  by_cases c6 : 5 < at1
  case pos =>
    rw [okF_f (by simp only; omega)]
    exact formedR_n6 k cl tk at1 fl me dl st p.length a c w (decide_eq_false c0) (decide_eq_false c1) (decide_eq_false c2) (decide_eq_false c3) (decide_eq_false c4) (decide_eq_false c5) c6
  by_cases c7 : fl < 1
  case pos =>
    rw [okF_f (by simp only; omega)]
    exact formedR_n7 k cl tk at1 fl me dl st p.length a c w (decide_eq_false c0) (decide_eq_false c1) (decide_eq_false c2) (decide_eq_false c3) (decide_eq_false c4) (decide_eq_false c5) (decide_eq_false c6) c7
  by_cases c8 : tk < fl
  case pos =>
    rw [okF_f (by simp only; omega)]
    exact formedR_n8 k cl tk at1 fl me dl st p.length a c w (decide_eq_false c0) (decide_eq_false c1) (decide_eq_false c2) (decide_eq_false c3) (decide_eq_false c4) (decide_eq_false c5) (decide_eq_false c6) (decide_eq_false c7) c8
  by_cases c9 : me < 0
  case pos =>
    rw [okF_f (by simp only; omega)]
    exact formedR_n9 k cl tk at1 fl me dl st p.length a c w (decide_eq_false c0) (decide_eq_false c1) (decide_eq_false c2) (decide_eq_false c3) (decide_eq_false c4) (decide_eq_false c5) (decide_eq_false c6) (decide_eq_false c7) (decide_eq_false c8) c9
  by_cases c10 : 2147483647 < me
  case pos =>
    rw [okF_f (by simp only; omega)]
    exact formedR_n10 k cl tk at1 fl me dl st p.length a c w (decide_eq_false c0) (decide_eq_false c1) (decide_eq_false c2) (decide_eq_false c3) (decide_eq_false c4) (decide_eq_false c5) (decide_eq_false c6) (decide_eq_false c7) (decide_eq_false c8) (decide_eq_false c9) c10
  by_cases c11 : dl < 0
  case pos =>
    rw [okF_f (by simp only; omega)]
    exact formedR_n11 k cl tk at1 fl me dl st p.length a c w (decide_eq_false c0) (decide_eq_false c1) (decide_eq_false c2) (decide_eq_false c3) (decide_eq_false c4) (decide_eq_false c5) (decide_eq_false c6) (decide_eq_false c7) (decide_eq_false c8) (decide_eq_false c9) (decide_eq_false c10) c11
  by_cases c12 : 1099511627776 < dl
  case pos =>
    rw [okF_f (by simp only; omega)]
    exact formedR_n12 k cl tk at1 fl me dl st p.length a c w (decide_eq_false c0) (decide_eq_false c1) (decide_eq_false c2) (decide_eq_false c3) (decide_eq_false c4) (decide_eq_false c5) (decide_eq_false c6) (decide_eq_false c7) (decide_eq_false c8) (decide_eq_false c9) (decide_eq_false c10) (decide_eq_false c11) c12
  by_cases c13 : st < 0
  case pos =>
    rw [okF_f (by simp only; omega)]
    exact formedR_n13 k cl tk at1 fl me dl st p.length a c w (decide_eq_false c0) (decide_eq_false c1) (decide_eq_false c2) (decide_eq_false c3) (decide_eq_false c4) (decide_eq_false c5) (decide_eq_false c6) (decide_eq_false c7) (decide_eq_false c8) (decide_eq_false c9) (decide_eq_false c10) (decide_eq_false c11) (decide_eq_false c12) c13
  by_cases c14 : 255 < st
  case pos =>
    rw [okF_f (by simp only; omega)]
    exact formedR_n14 k cl tk at1 fl me dl st p.length a c w (decide_eq_false c0) (decide_eq_false c1) (decide_eq_false c2) (decide_eq_false c3) (decide_eq_false c4) (decide_eq_false c5) (decide_eq_false c6) (decide_eq_false c7) (decide_eq_false c8) (decide_eq_false c9) (decide_eq_false c10) (decide_eq_false c11) (decide_eq_false c12) (decide_eq_false c13) c14
  by_cases c15 : 4096 < (p.length : Int)
  case pos =>
    rw [okF_f (by simp only; omega)]
    exact formedR_n15 k cl tk at1 fl me dl st p.length a c w (decide_eq_false c0) (decide_eq_false c1) (decide_eq_false c2) (decide_eq_false c3) (decide_eq_false c4) (decide_eq_false c5) (decide_eq_false c6) (decide_eq_false c7) (decide_eq_false c8) (decide_eq_false c9) (decide_eq_false c10) (decide_eq_false c11) (decide_eq_false c12) (decide_eq_false c13) (decide_eq_false c14) c15
  by_cases k1 : k = 1
  · by_cases s0 : st = 0
    · rw [okF_t (by simp only; omega)]
      exact formedR_a k cl tk at1 fl me dl st p.length a c w (decide_eq_false c0) (decide_eq_false c1) (decide_eq_false c2) (decide_eq_false c3) (decide_eq_false c4) (decide_eq_false c5) (decide_eq_false c6) (decide_eq_false c7) (decide_eq_false c8) (decide_eq_false c9) (decide_eq_false c10) (decide_eq_false c11) (decide_eq_false c12) (decide_eq_false c13) (decide_eq_false c14) (decide_eq_false c15) k1 s0
    · rw [okF_f (by simp only; omega)]
      exact formedR_b k cl tk at1 fl me dl st p.length a c w (decide_eq_false c0) (decide_eq_false c1) (decide_eq_false c2) (decide_eq_false c3) (decide_eq_false c4) (decide_eq_false c5) (decide_eq_false c6) (decide_eq_false c7) (decide_eq_false c8) (decide_eq_false c9) (decide_eq_false c10) (decide_eq_false c11) (decide_eq_false c12) (decide_eq_false c13) (decide_eq_false c14) (decide_eq_false c15) k1 (by rw [beq_eq_false_iff_ne]; omega)
  · by_cases k2 : k = 2
    · rw [okF_t (by simp only; omega)]
      exact formedR_c k cl tk at1 fl me dl st p.length a c w (decide_eq_false c0) (decide_eq_false c1) (decide_eq_false c2) (decide_eq_false c3) (decide_eq_false c4) (decide_eq_false c5) (decide_eq_false c6) (decide_eq_false c7) (decide_eq_false c8) (decide_eq_false c9) (decide_eq_false c10) (decide_eq_false c11) (decide_eq_false c12) (decide_eq_false c13) (decide_eq_false c14) (decide_eq_false c15) k2
    · have k3 : k = 3 := by omega
      by_cases n0 : p.length = 0
      · by_cases s0 : st = 0
        · rw [okF_t (by simp only; omega)]
          exact formedR_d k cl tk at1 fl me dl st p.length a c w (decide_eq_false c0) (decide_eq_false c1) (decide_eq_false c2) (decide_eq_false c3) (decide_eq_false c4) (decide_eq_false c5) (decide_eq_false c6) (decide_eq_false c7) (decide_eq_false c8) (decide_eq_false c9) (decide_eq_false c10) (decide_eq_false c11) (decide_eq_false c12) (decide_eq_false c13) (decide_eq_false c14) (decide_eq_false c15) k3 n0 s0
        · rw [okF_f (by simp only; omega)]
          exact formedR_e k cl tk at1 fl me dl st p.length a c w (decide_eq_false c0) (decide_eq_false c1) (decide_eq_false c2) (decide_eq_false c3) (decide_eq_false c4) (decide_eq_false c5) (decide_eq_false c6) (decide_eq_false c7) (decide_eq_false c8) (decide_eq_false c9) (decide_eq_false c10) (decide_eq_false c11) (decide_eq_false c12) (decide_eq_false c13) (decide_eq_false c14) (decide_eq_false c15) k3 n0 (by rw [beq_eq_false_iff_ne]; omega)
      · rw [okF_f (by simp only; omega)]
        exact formedR_f k cl tk at1 fl me dl st p.length a c w (decide_eq_false c0) (decide_eq_false c1) (decide_eq_false c2) (decide_eq_false c3) (decide_eq_false c4) (decide_eq_false c5) (decide_eq_false c6) (decide_eq_false c7) (decide_eq_false c8) (decide_eq_false c9) (decide_eq_false c10) (decide_eq_false c11) (decide_eq_false c12) (decide_eq_false c13) (decide_eq_false c14) (decide_eq_false c15) k3 (by rw [beq_eq_false_iff_ne]; omega)
end Go.Proofs.YtckbplhplpnhaaaDoor
