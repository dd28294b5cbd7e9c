/-
  A field that came in as an argument: what its reading says of its four parts. Nothing is proved of the program here.
-/
import Derived.Test.YthpaanjphpcfkaaFmd
import Derived.Lib.SmallJoins
import Derived.SizedLaws
namespace Go.Proofs.Ythpaanjphpcfkaa
set_option linter.unusedVariables false
open Go.ChangeShapes Go.WideShapes Go.ChangeAt Go.RowKit Go.Joins

theorem open_field {H : Type} {enc : TypeId × Value → H} {W : World} {r : Reach} {b0 : Nat} {v : Value} {d : DataW H} {p : List MemPlace}
    (hv : Value.okWide Try.prog W r b0 25 v) (h : DataW.Trod enc Try.prog W 0 (fun _ => true) true 25 v d p)
    (hs : ∀ n ∈ d.weights Try.prog 25, n ≤ reachBytes) :
    ∃ (num ty n : Int) (a : Option Addr) (len cap : Nat) (zs : List Int), v = fv num ty n a len cap ∧ (-9223372036854775808 ≤ num ∧ num ≤ 9223372036854775807) ∧ (-9223372036854775808 ≤ ty ∧ ty ≤ 9223372036854775807) ∧
      (0 ≤ n ∧ n ≤ 18446744073709551615) ∧ ArgB W a len cap zs := by
  obtain ⟨c0, c1, c2, c3, y0, y1, y2, y3, m, rfl, rfl, rfl, h0, h1, h2, h3⟩ := open_agg4 Try.underlying25 (by kernel_rfl) (by kernel_rfl) hv h
  obtain ⟨num, e0, _, w0⟩ := DataW.trod_int Try.underlying3 h0
  obtain ⟨ty, e1, _, w1⟩ := DataW.trod_int Try.underlying3 h1
  obtain ⟨n, e2, _, w2⟩ := DataW.trod_int Try.underlying23 h2
  simp at e0 e1 e2
  subst e0 e1 e2
  rcases open_ints Try.underlying22 Try.underlying5 (by kernel_rfl) h3 with ⟨hcs, _⟩ | ⟨x, l, c, zs, hcs, _, hl, hm, hz, hx, hcell, hwz⟩
  · simp at hcs
    subst hcs
    exact ⟨num, ty, n, none, 0, 0, [], rfl, bd_i64 w0, bd_i64 w1, bd_u64 w2, argB_nil _⟩
  · simp at hcs
    subst hcs
    simp only [if_true] at hz
    subst hx
    have hreach : c ≤ 140737488351232 := by
      have := hs (((lits (H := H) .u8 (zs.take l)).length + (lits (H := H) .u8 (zs.drop l)).length) * Try.prog.bytesOf 5) (by simp [DataW.weights, DataW.weightsEach, Try.underlying25, Try.underlying22])
      rw [show Try.prog.bytesOf 5 = 1 by kernel_rfl] at this
      simp only [lits, List.length_map, List.length_take, List.length_drop, reachBytes] at this
      omega
    exact ⟨num, ty, n, some x, l, c, zs.take l, rfl, bd_i64 w0, bd_i64 w1, bd_u64 w2, argB_of hl hreach hz hcell hwz⟩
end Go.Proofs.Ythpaanjphpcfkaa
