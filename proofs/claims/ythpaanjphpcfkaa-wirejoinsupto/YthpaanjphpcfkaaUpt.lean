/-
  Arguments of small bulk: what their readings say: bytes, and a field. Nothing is proved of the program here.
-/
import Derived.Test.YthpaanjphpcfkaaRows
import Derived.Test.YthpaanjphpcfkaaFmd
import Derived.Lib.SmallJoins
namespace Go.Proofs.Ythpaanjphpcfkaa
set_option linter.unusedVariables false
open Go.ChangeShapes Go.WideShapes Go.ChangeAt Go.RowKit Go.Joins

theorem bulk_one {H : Type} (d : DataW H) : 1 ≤ Rows.uptoBulk d := by
  cases d with
  | lit l => cases l <;> simp [Rows.uptoBulk]
  | _ => simp [Rows.uptoBulk]
theorem bulk_part {H : Type} {d : DataW H} {l : List (DataW H)} (h : d ∈ l) : Rows.uptoBulk d ≤ Rows.uptoBulkAll l := by
  induction l with
  | nil => cases h
  | cons x r ih =>
    simp only [Rows.uptoBulkAll]
    rcases List.mem_cons.1 h with rfl | e
    · omega
    · have := ih e; omega
theorem bulk_length {H : Type} (l : List (DataW H)) : l.length ≤ Rows.uptoBulkAll l := by
  induction l with
  | nil => simp [Rows.uptoBulkAll]
  | cons x r ih => have := bulk_one x; simp only [Rows.uptoBulkAll, List.length_cons]; omega
theorem bulk_bound {H : Type} {l : List (DataW H)} (hk : Rows.uptoSmall H l = true) : Rows.uptoBulkAll l ≤ 1048576 := of_decide_eq_true hk

theorem bytes_of_trod {H : Type} {enc : TypeId × Value → H} {W : World} {fuel : Nat} {cs : List Value} {y : DataW H × List MemPlace}
    (h : DataW.trod enc Try.prog W 0 (fun _ => true) true fuel 22 cs = some y) (hu : Rows.uptoBulk y.1 ≤ 1048576) :
    ∃ (a : Option Addr) (len cap : Nat) (zs : List Int), cs = [.slice a len cap] ∧ ArgB W a len cap zs ∧ cap + 1 ≤ Rows.uptoBulk y.1 := by
  rcases open_ints Try.underlying22 Try.underlying5 (by kernel_rfl) h with ⟨hcs, hy⟩ | ⟨x, l, c, zs, hcs, _, hl, hm, hz, hx, hcell, hwz⟩
  · subst hcs hy
    exact ⟨none, 0, 0, [], rfl, argB_nil _, by simp [Rows.uptoBulk]⟩
  · subst hcs
    simp only [if_true] at hz
    subst hx
    have hb : c + 1 ≤ Rows.uptoBulk (DataW.slice (lits (H := H) .u8 (zs.take l)) (lits (H := H) .u8 (zs.drop l))) := by
      have h1 := bulk_length (lits (H := H) .u8 (zs.take l))
      have h2 := bulk_length (lits (H := H) .u8 (zs.drop l))
      simp only [lits, List.length_map, List.length_take, List.length_drop] at h1 h2
      simp only [Rows.uptoBulk, lits]
      omega
    simp only [] at hu
    exact ⟨some x, l, c, zs.take l, rfl, argB_of hl (by omega) hz hcell hwz, hb⟩
theorem open_bytesU {H : Type} {enc : TypeId × Value → H} {W : World} {r : Reach} {b0 : Nat} {v : Value} {d : DataW H} {p : List MemPlace}
    (hv : Value.okWide Try.prog W r b0 22 v) (h : DataW.Trod enc Try.prog W 0 (fun _ => true) true 22 v d p) (hu : Rows.uptoBulk d ≤ 1048576) :
    ∃ (a : Option Addr) (len cap : Nat) (zs : List Int), v = .slice a len cap ∧ ArgB W a len cap zs ∧ cap ≤ 1048576 := by
  obtain ⟨a, len, cap, rfl⟩ := okWide_slice Try.underlying22 hv
  obtain ⟨fuel, hf⟩ := h
  obtain ⟨a', len', cap', zs, hcs, hA, hb⟩ := bytes_of_trod hf hu
  simp [Value.cells] at hcs
  obtain ⟨rfl, rfl, rfl⟩ := hcs
  exact ⟨a, len, cap, zs, rfl, hA, by simp only [] at hb; omega⟩
theorem open_fieldU {H : Type} {enc : TypeId × Value → H} {W : World} {r : Reach} {b0 : Nat} {v : Value} {d : DataW H} {p : List MemPlace}
    (hv : Value.okWide Try.prog W r b0 25 v) (h : DataW.Trod enc Try.prog W 0 (fun _ => true) true 25 v d p) (hu : Rows.uptoBulk d ≤ 1048576) :
    ∃ (num ty n : Int) (a : Option Addr) (len cap : Nat) (zs : List Int), v = fv num ty n a len cap ∧ (-9223372036854775808 ≤ num ∧ num ≤ 9223372036854775807) ∧ (-9223372036854775808 ≤ ty ∧ ty ≤ 9223372036854775807) ∧
      (0 ≤ n ∧ n ≤ 18446744073709551615) ∧ ArgB W a len cap zs ∧ cap ≤ 1048576 := by
  obtain ⟨c0, c1, c2, c3, y0, y1, y2, y3, m, rfl, rfl, rfl, h0, h1, h2, h3⟩ := open_agg4 Try.underlying25 (by kernel_rfl) (by kernel_rfl) hv h
  obtain ⟨num, e0, _, w0⟩ := DataW.trod_int Try.underlying3 h0
  obtain ⟨ty, e1, _, w1⟩ := DataW.trod_int Try.underlying3 h1
  obtain ⟨n, e2, _, w2⟩ := DataW.trod_int Try.underlying23 h2
  simp at e0 e1 e2
  subst e0 e1 e2
  have hy3 : Rows.uptoBulk y3.1 ≤ 1048576 := by
    have := bulk_part (d := y3.1) (l := [y0.1, y1.1, y2.1, y3.1]) (by simp)
    simp only [Rows.uptoBulk] at hu
    omega
  obtain ⟨a, len, cap, zs, hcs, hA, hb⟩ := bytes_of_trod h3 hy3
  simp at hcs
  subst hcs
  exact ⟨num, ty, n, a, len, cap, zs, rfl, bd_i64 w0, bd_i64 w1, bd_u64 w2, hA, by omega⟩
end Go.Proofs.Ythpaanjphpcfkaa
