/-
  The conversion of a slice of bytes to a string, in the words of this seat: it answers the bytes, and changes nothing. Nothing is proved of the program here.
-/
import Derived.Test.YtckbplhplpnhaaaDoorGrown
import Derived.Laws.BytesArg
import Derived.Laws.BytesString
import Derived.Laws.Concat
import Derived.Laws.Strings
namespace Go.Proofs.YtckbplhplpnhaaaDoor
set_option linter.unusedVariables false
open Go.ChangeShapes Go.WideShapes Go.ChangeAt Go.RowKit
theorem run_str (w : World) (a : Option Addr) (len cap : Nat) (zs : List Int) (hB : IsB w a len zs) :
    (convert 23 9 (.slice a len cap)).run Tryd.prog w = .ok (.string (strOfNums zs)) w := by
  obtain ⟨h1, h2, h3⟩ := hB
  by_cases h0 : len = 0
  · subst h0
    have hz : zs = [] := List.eq_nil_of_length_eq_zero h1
    subst hz
    cases a with
    | none => exact run_convert_bytes_nil w 23 5 Tryd.underlying23 Tryd.underlying5 0 cap 9 Tryd.underlying9
    | some x =>
      rw [run_convert_bytes_string w 23 9 5 (some x) 0 cap Tryd.underlying23 Tryd.underlying5 Tryd.underlying9,
        run_bytesToString w x 0 cap [] (by simpa using run_loadCells_list (P := Tryd.prog) w x [] (by simp))]
      rfl
  · rcases h3 with rfl | ⟨b, off, rfl, hh⟩
    · simp at h1; omega
    · refine run_convert_bytes_arg w 23 5 Tryd.underlying23 Tryd.underlying5 b off len cap zs h1 ?_ 9 Tryd.underlying9
      intro i hi
      have : zs[i]? = some (zs.getD i 0) := by
        rw [List.getD_eq_getElem?_getD, List.getElem?_eq_getElem (by omega)]; rfl
      exact hh.1 i _ this
theorem str_append (x y : List Int) : strOfNums x ++ strOfNums y = strOfNums (x ++ y) := by
  unfold strOfNums
  rw [ByteArray.mk_append_mk, List.map_append]
theorem str_list (x : List Int) : (strOfNums x).toList = x.map fun n => UInt8.ofNat n.toNat := by
  rw [ByteArray.toList_eq]; rfl
theorem bytes_inj : ∀ (x y : List Int), (∀ z ∈ x, 0 ≤ z ∧ z ≤ 255) → (∀ z ∈ y, 0 ≤ z ∧ z ≤ 255) → (x.map fun n => UInt8.ofNat n.toNat) = (y.map fun n => UInt8.ofNat n.toNat) → x = y
  | [], [], _, _, _ => rfl
  | [], b :: y, _, _, h => by simp at h
  | a :: x, [], _, _, h => by simp at h
  | a :: x, b :: y, hx, hy, h => by
    simp only [List.map_cons, List.cons.injEq] at h
    have ha := hx a List.mem_cons_self
    have hb := hy b List.mem_cons_self
    have e : a.toNat % 256 = b.toNat % 256 := by
      have := congrArg UInt8.toNat h.1
      simpa using this
    have e2 : a = b := by omega
    rw [e2, bytes_inj x y (fun z hz => hx z (List.mem_cons_of_mem _ hz)) (fun z hz => hy z (List.mem_cons_of_mem _ hz)) h.2]
/-- two strings of bytes are alike just if the bytes are -/
theorem str_inj (x y : List Int) (hx : ∀ z ∈ x, 0 ≤ z ∧ z ≤ 255) (hy : ∀ z ∈ y, 0 ≤ z ∧ z ≤ 255) : ((strOfNums x).toList == (strOfNums y).toList) = decide (x = y) := by
  rw [str_list, str_list, Bool.eq_iff_iff, beq_iff_eq, decide_eq_true_iff]
  exact ⟨bytes_inj x y hx hy, fun h => by rw [h]⟩
end Go.Proofs.YtckbplhplpnhaaaDoor
