/-
  A name's text is valid; the library's tables stand behind calls. Nothing is proved of the program here.
-/
import Derived.Test.YtglkgcpfdhneeaaDoorNam
import Derived.Test.YtglkgcpfdhneeaaDoorEnc
import Derived.Lib.ValidLaws
import Derived.Lib.TrimUEq
namespace Go.Proofs.YtglkgcpfdhneeaaDoor
set_option linter.unusedVariables false
open Go.ChangeShapes Go.WideShapes Go.ChangeAt Go.RowKit

theorem valid_of_runes (s : ByteArray) : ∀ (b pos : Nat), s.size ≤ pos + b → (∀ r ∈ rns s b pos, r ≠ 65533) → Lib.validD (s.data.toList.drop pos) = true
  | b, pos, hb, h => by
    by_cases hp : pos < s.size
    · cases b with
      | zero => omega
      | succ b =>
        have hne : s.data.toList.drop pos ≠ [] := by
          intro e
          have := congrArg List.length e
          rw [List.length_drop, List.length_nil] at this
          have := len_data s
          omega
        rw [rns_step s b pos hp] at h
        have hw := width_pos s pos hp
        rw [Lib.validD_step _ hne, Lib.decodeL_drop, if_neg, List.drop_drop]
        · exact valid_of_runes s b (pos + (Utf8.decode s pos).2) (by omega) (fun r hr => h r (List.mem_cons_of_mem _ hr))
        · rintro ⟨h1, _⟩
          have := h _ List.mem_cons_self
          omega
    · have e : s.data.toList.drop pos = [] := List.drop_eq_nil_of_le (by rw [len_data]; omega)
      rw [e]; rfl
theorem valid_of_name (s : ByteArray) (h : nameOf (runes s) = true) : Lib.validD s.data.toList = true := by
  have := valid_of_runes s s.size 0 (by omega) (fun r hr => by
    have := two_of_name (name_all h r hr)
    unfold two at this; omega)
  simpa using this
theorem isName_eq (s : ByteArray) : isName s = nameOf (runes s) := by
  unfold isName
  by_cases h : nameOf (runes s) = true
  · rw [h, valid_of_name s h]; rfl
  · rw [Bool.not_eq_true] at h
    rw [h, Bool.and_false]
end Go.Proofs.YtglkgcpfdhneeaaDoor
