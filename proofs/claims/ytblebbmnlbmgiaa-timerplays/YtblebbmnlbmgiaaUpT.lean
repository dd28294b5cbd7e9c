/-
  Slices of numbers, and of calls, that came in as an argument: what their reading says. Nothing is proved of the program here.
-/
import Derived.Test.YtblebbmnlbmgiaaUpD
import Derived.Deep.Strs
namespace Go.Proofs.Ytblebbmnlbmgiaa
set_option linter.unusedVariables false
open Go.ChangeShapes Go.WideShapes Go.ChangeAt Go.RowKit Go.Joins

theorem bdT_i64 {a : Int} (w : (Lit.int .i64 a).wf = true) : -9223372036854775808 ≤ a ∧ a ≤ 9223372036854775807 := by
  simpa [Lit.wf, IntKind.min, IntKind.max, IntKind.bits, IntKind.signed] using w
theorem bdT_u64 {a : Int} (w : (Lit.int .u64 a).wf = true) : 0 ≤ a ∧ a ≤ 18446744073709551615 := by
  simpa [Lit.wf, IntKind.min, IntKind.max, IntKind.bits, IntKind.signed] using w
set_option maxRecDepth 100000 in
theorem open_u64s {H : Type} {enc : TypeId × Value → H} {W : World} {r : Reach} {b0 : Nat} {v : Value} {d : DataW H} {p : List MemPlace}
    (hv : Value.okWide Try.prog W r b0 47 v) (h : DataW.Trod enc Try.prog W 0 (fun _ => true) true 47 v d p) (hw : Wok2 d 47) :
    ∃ (a : Option Addr) (c : Nat) (us : List Int), v = .slice a us.length c ∧ RowsIn W (fun b => b < W.heap.size) 1 (fun z => [.int .u64 z]) v us ∧ us.length ≤ 140737488355328 ∧ ∀ x ∈ us, 0 ≤ x ∧ x ≤ 18446744073709551615 := by
  obtain ⟨a0, len, cap, rfl⟩ := okWide_slice Try.underlying47 hv
  obtain ⟨fuel, hf⟩ := h
  obtain ⟨v1, us, e, hR, hlen, hfit⟩ := slice_rows (α := Int) 47 33 1 (fun z => [.int .u64 z]) (fun z => 0 ≤ z ∧ z ≤ 18446744073709551615) Try.underlying47 (by kernel_rfl) (by omega) (fun _ => rfl) (by rw [show Try.prog.bytesOf 33 = 8 by kernel_rfl]; omega) (fun n _ cs y hq _ => by
    obtain ⟨z, e, _, hz⟩ := DataW.trod_int Try.underlying33 hq
    exact ⟨z, e, bdT_u64 hz⟩) hf hw
  have e2 : Value.slice a0 len cap = v1 := by simpa [Value.cells] using e
  subst e2
  have hR2 := hR
  obtain ⟨ad, c, hv2, _⟩ := hR
  exact ⟨ad, c, us, hv2, hR2, hlen, hfit⟩
set_option maxRecDepth 100000 in
theorem open_i64s {H : Type} {enc : TypeId × Value → H} {W : World} {r : Reach} {b0 : Nat} {v : Value} {d : DataW H} {p : List MemPlace}
    (hv : Value.okWide Try.prog W r b0 48 v) (h : DataW.Trod enc Try.prog W 0 (fun _ => true) true 48 v d p) (hw : Wok2 d 48) :
    ∃ (a : Option Addr) (c : Nat) (us : List Int), v = .slice a us.length c ∧ RowsIn W (fun b => b < W.heap.size) 1 (fun z => [.int .i64 z]) v us ∧ us.length ≤ 140737488355328 ∧ ∀ x ∈ us, -9223372036854775808 ≤ x ∧ x ≤ 9223372036854775807 := by
  obtain ⟨a0, len, cap, rfl⟩ := okWide_slice Try.underlying48 hv
  obtain ⟨fuel, hf⟩ := h
  obtain ⟨v1, us, e, hR, hlen, hfit⟩ := slice_rows (α := Int) 48 2 1 (fun z => [.int .i64 z]) (fun z => -9223372036854775808 ≤ z ∧ z ≤ 9223372036854775807) Try.underlying48 (by kernel_rfl) (by omega) (fun _ => rfl) (by rw [show Try.prog.bytesOf 2 = 8 by kernel_rfl]; omega) (fun n _ cs y hq _ => by
    obtain ⟨z, e, _, hz⟩ := DataW.trod_int Try.underlying2 hq
    exact ⟨z, e, bdT_i64 hz⟩) hf hw
  have e2 : Value.slice a0 len cap = v1 := by simpa [Value.cells] using e
  subst e2
  have hR2 := hR
  obtain ⟨ad, c, hv2, _⟩ := hR
  exact ⟨ad, c, us, hv2, hR2, hlen, hfit⟩
/-- a call of a script: its kind, key and time -/
def opRow (x : Int × Int × Int) : List Value := [.int .i64 x.1, .int .u64 x.2.1, .int .i64 x.2.2]
def opFit (x : Int × Int × Int) : Prop := (-9223372036854775808 ≤ x.1 ∧ x.1 ≤ 9223372036854775807) ∧ (0 ≤ x.2.1 ∧ x.2.1 ≤ 18446744073709551615) ∧ -9223372036854775808 ≤ x.2.2 ∧ x.2.2 ≤ 9223372036854775807
theorem three {α : Type} {l : List α} (h : l.length = 3) : ∃ a b c, l = [a, b, c] := by
  match l, h with
  | [a, b, c], _ => exact ⟨a, b, c, rfl⟩
set_option maxRecDepth 100000 in
theorem open_ops {H : Type} {enc : TypeId × Value → H} {W : World} {r : Reach} {b0 : Nat} {v : Value} {d : DataW H} {p : List MemPlace}
    (hv : Value.okWide Try.prog W r b0 22 v) (h : DataW.Trod enc Try.prog W 0 (fun _ => true) true 22 v d p) (hw : Wok2 d 22) :
    ∃ (a : Option Addr) (c : Nat) (us : List (Int × Int × Int)), v = .slice a us.length c ∧ RowsIn W (fun b => b < W.heap.size) 3 opRow v us ∧ us.length ≤ 140737488355328 ∧ ∀ x ∈ us, opFit x := by
  obtain ⟨a0, len, cap, rfl⟩ := okWide_slice Try.underlying22 hv
  obtain ⟨fuel, hf⟩ := h
  obtain ⟨v1, us, e, hR, hlen, hfit⟩ := slice_rows (α := Int × Int × Int) 22 35 3 opRow opFit Try.underlying22 (by kernel_rfl) (by omega) (fun _ => rfl) (by rw [show Try.prog.bytesOf 35 = 24 by kernel_rfl]; omega) (fun n _ cs y hq _ => by
    obtain ⟨y0, y1, y2, m, rfl, hl, h0, h1, h2⟩ := Deep.trod_struct3 Try.underlying35 hq
    rw [show Try.prog.cellsOf 35 = 3 by kernel_rfl] at hl
    obtain ⟨a, b, c, rfl⟩ := three hl
    obtain ⟨z0, e0, _, hz0⟩ := DataW.trod_int Try.underlying3 h0
    obtain ⟨z1, e1, _, hz1⟩ := DataW.trod_int Try.underlying33 h1
    obtain ⟨z2, e2, _, hz2⟩ := DataW.trod_int Try.underlying2 h2
    rw [show Try.prog.cellsOf 3 = 1 by kernel_rfl] at e0
    rw [show Try.prog.cellsOf 33 = 1 by kernel_rfl] at e1
    rw [show Try.prog.cellsOf 2 = 1 by kernel_rfl] at e2
    simp at e0 e1 e2
    subst e0 e1 e2
    exact ⟨(z0, z1, z2), rfl, bdT_i64 hz0, bdT_u64 hz1, bdT_i64 hz2⟩) hf hw
  have e2 : Value.slice a0 len cap = v1 := by simpa [Value.cells] using e
  subst e2
  have hR2 := hR
  obtain ⟨ad, c, hv2, _⟩ := hR
  exact ⟨ad, c, us, hv2, hR2, hlen, hfit⟩
end Go.Proofs.Ytblebbmnlbmgiaa
