/-
  A name's text is valid; and the walks over the program's own Runes and Reserved.
-/
import Derived.Test.YtpodlakkfbjhbaaDoorRes
import Derived.Test.YtpodlakkfbjhbaaDoorDev
import Derived.Test.YtpodlakkfbjhbaaDoorEnc
import Derived.Lib.ValidLaws
import Derived.Lib.TrimUEq
namespace Go.Proofs.YtpodlakkfbjhbaaDoor
set_option linter.unusedVariables false
open Go.ChangeShapes Go.WideShapes Go.ChangeAt Go.RowKit

theorem tabs_below {w w' : World} (h : Tabs w) (hb : Below w.heap.size w w') : Tabs w' := Utf8Tabs_below h hb
theorem len_data (s : ByteArray) : s.data.toList.length = s.size := by first | exact Lib.size_eq s | exact (Lib.size_eq s).symm
theorem valid_of_runes (s : ByteArray) : ∀ (b pos : Nat), s.size ≤ pos + b → (∀ r ∈ rns s b pos, r ≠ 65533) → Lib.validD (s.data.toList.drop pos) = true
  | b, pos, hb, h => by
    by_cases hp : pos < s.size
    · cases b with
      | zero => omega
      | succ b =>
        have hne : s.data.toList.drop pos ≠ [] := by
          intro e
          have := congrArg List.length e
          rw [List.length_drop, List.length_nil] at this
          have := len_data s
          omega
        rw [rns_step s b pos hp] at h
        have hw := width_pos s pos hp
        rw [Lib.validD_step _ hne, Lib.decodeL_drop, if_neg, List.drop_drop]
        · exact valid_of_runes s b (pos + (Utf8.decode s pos).2) (by omega) (fun r hr => h r (List.mem_cons_of_mem _ hr))
        · rintro ⟨h1, _⟩
          have := h _ List.mem_cons_self
          omega
    · have e : s.data.toList.drop pos = [] := List.drop_eq_nil_of_le (by rw [len_data]; omega)
      rw [e]; rfl
theorem valid_of_name (s : ByteArray) (h : nameOf (runes s) = true) : Lib.validD s.data.toList = true := by
  have := valid_of_runes s s.size 0 (by omega) (fun r hr => by
    have := two_of_name (name_all h r hr)
    unfold two at this; omega)
  simpa using this
theorem isName_eq (s : ByteArray) : isName s = nameOf (runes s) := by
  unfold isName
  by_cases h : nameOf (runes s) = true
  · rw [h, valid_of_name s h]; rfl
  · rw [Bool.not_eq_true] at h
    rw [h, Bool.and_false]

set_option maxHeartbeats 1000000 in
theorem runes_any (s : ByteArray) (w : World) (hT : Tabs w) (h : s.size ≤ 70368744177664) :
    Calls Tryd.prog 8 #[.string s] w fun e w' =>
      e = .returned (.tuple #[.int .i64 (if Lib.validD s.data.toList = true then ((runes s).length : Int) else 0), .bool (Lib.validD s.data.toList)]) ∧ Below w.heap.size w w' := by
  have hv := utf8_ValidString s w (by omega) hT
  obtain ⟨V, hV⟩ : ∃ V, Lib.validD s.data.toList = V := ⟨_, rfl⟩
  rw [hV] at hv ⊢
  cases V with
  | false =>
    rw [if_neg (by decide)]
    go_enter Tryd.func8, Tryd.ntmps8
    go_wp2_with fail
    refine hv.mono ?_
    rintro e w1 ⟨rfl, hb⟩
    go_wp2_with fail
    go_ret2
    exact ⟨rfl, hb⟩
  | true =>
    rw [if_pos rfl, ← runeCount_runes]
    have hR := fun W => utf8_RuneCountInString s W (by omega)
    generalize Lib.runeCount s = K at *
    go_enter Tryd.func8, Tryd.ntmps8
    go_wp2_with fail
    refine hv.mono ?_
    rintro e w1 ⟨rfl, hb⟩
    go_wp2_with fail
    refine (hR w1).mono ?_
    rintro e w2 ⟨rfl, p, hw2⟩
    have hb2 : Below w.heap.size w w2 := by rw [hw2]; exact hb.alloc hb.size _
    clear hw2
    go_wp2_with fail
    go_ret2
    exact ⟨rfl, hb2⟩
set_option maxHeartbeats 2000000 in
theorem reserved_any (s : ByteArray) (w : World) :
    Calls Tryd.prog 12 #[.string s] w fun e w' => e = .returned (.bool (resOf s.toList)) ∧ w' = w := by
  go_enter Tryd.func12, Tryd.ntmps12
  go_wp2
  all_goals
    go_ret
    refine ⟨retB ?_, rfl⟩
    unfold resOf scalarOf
    first
      | (simp [*]; done)
      | simp_all
end Go.Proofs.YtpodlakkfbjhbaaDoor
