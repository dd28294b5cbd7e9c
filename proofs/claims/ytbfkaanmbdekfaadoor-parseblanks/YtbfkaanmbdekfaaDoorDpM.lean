/-
  Behind an error a reader of words stays as it is: facts of the plain functions. Nothing is proved of the program here.
-/
import Derived.Test.YtbfkaanmbdekfaaDoorPsM
namespace Go.Proofs.YtbfkaanmbdekfaaDoor
set_option linter.unusedVariables false

section
variable (en : Int × Int)
theorem Rd.fail_stay {r : Rd} (h : r.e ≠ 0) (e : Int) (p : Int × Int) : r.fail e p = r := by unfold Rd.fail; rw [if_neg h]
theorem Rd.is_off {r : Rd} (h : r.e ≠ 0) (t : List UInt8) : r.is t = false := by unfold Rd.is; simp [h]
theorem Rd.isName_off {r : Rd} (h : r.e ≠ 0) : r.isName = false := by unfold Rd.isName; simp [h]
theorem Rd.isNum_off {r : Rd} (h : r.e ≠ 0) : r.isNum = false := by unfold Rd.isNum; simp [h]
theorem Rd.isScal_off {r : Rd} (h : r.e ≠ 0) : r.isScal = false := by unfold Rd.isScal; simp [h]
theorem Rd.take_stay {r : Rd} (h : r.e ≠ 0) (t : List UInt8) : r.take en t = r := by
  unfold Rd.take; rw [Rd.is_off h, if_neg (by decide), Rd.fail_stay h]
theorem Rd.name_stay {r : Rd} (h : r.e ≠ 0) : r.name en = r := by
  unfold Rd.name; rw [Rd.isName_off h, if_neg (by decide), Rd.fail_stay h]
theorem Rd.number_stay {r : Rd} (h : r.e ≠ 0) : r.number en = r := by
  unfold Rd.number; rw [Rd.isNum_off h, if_neg (by decide), Rd.fail_stay h]
theorem pathL_off (first : Int × Int) (f n : Nat) (s : List UInt8) (r : Rd) (h : r.is [46] = false) : pathL en first f n s r = (s, r) := by
  cases f with
  | zero => rfl
  | succ f => rw [pathL, h, if_neg (by decide)]
theorem Rd.path_stay {r : Rd} (h : r.e ≠ 0) : (r.path en).2 = r := by
  unfold Rd.path; rw [Rd.name_stay en h, pathL_off en _ _ _ _ _ (Rd.is_off h _)]
theorem Rd.typ_stay {r : Rd} (h : r.e ≠ 0) : (r.typ en).2 = r := by
  unfold Rd.typ; rw [Rd.isScal_off h, if_neg (by decide), Rd.path_stay en h]
theorem Rd.value_stay {r : Rd} (h : r.e ≠ 0) : (r.value en).2 = r := by
  unfold Rd.value
  simp only
  rw [Rd.name_stay en h, Rd.take_stay en h, Rd.number_stay en h, Rd.take_stay en h]
theorem Rd.e_fail {r : Rd} (h : r.e = 0) (e : Int) (p : Int × Int) : (r.fail e p).e = e := by unfold Rd.fail; rw [if_pos h]
theorem Rd.e_take {r : Rd} (h : r.e = 0) (t : List UInt8) : decide ((r.take en t).e = 0) = r.is t := by
  unfold Rd.take
  by_cases hi : r.is t = true
  · rw [if_pos hi, hi]; exact decide_eq_true h
  · rw [if_neg hi, Rd.e_fail h]; simp at hi; rw [hi]; rfl
theorem Rd.e_name {r : Rd} (h : r.e = 0) : decide ((r.name en).e = 0) = r.isName := by
  unfold Rd.name
  by_cases hi : r.isName = true
  · rw [if_pos hi, hi]; exact decide_eq_true h
  · rw [if_neg hi, Rd.e_fail h]; simp at hi; rw [hi]; rfl
theorem Rd.e_number {r : Rd} (h : r.e = 0) : decide ((r.number en).e = 0) = r.isNum := by
  unfold Rd.number
  by_cases hi : r.isNum = true
  · rw [if_pos hi, hi]; exact decide_eq_true h
  · rw [if_neg hi, Rd.e_fail h]; simp at hi; rw [hi]; rfl
end
end Go.Proofs.YtbfkaanmbdekfaaDoor
