/-
  The walks over the program's own writer: line and word; what writing leaves.
-/
import Derived.Test.YtglkgcpfdhneeaaDoorShP
import Derived.Test.YtglkgcpfdhneeaaDoorProg
import Derived.Test.YtglkgcpfdhneeaaDoorPsW
import Derived.Test.YtglkgcpfdhneeaaDoorPrM
import Derived.Test.YtglkgcpfdhneeaaDoorDpB
import Derived.Test.YtglkgcpfdhneeaaDoorDvT
import Derived.Deep.RegionHeldLaw
import Derived.WalkKit
import Derived.Laws.Externs
import Derived.Lib.BufferKept
import Derived.Lib.FrozenHead2
import Derived.Lib.AppendIntMem
import Derived.Shelf.RegionOpenPlain
namespace Go.Proofs.YtglkgcpfdhneeaaDoor
set_option linter.unusedVariables false
open Go.ChangeShapes Go.WideShapes Go.ChangeAt Go.RowKit

/-! formed texts are short -/
theorem width_le (s : ByteArray) (pos : Nat) : (Utf8.decode s pos).2 ≤ 4 := by
  simp only [Utf8.decode]
  repeat' split
  all_goals simp
theorem size_runes (s : ByteArray) : ∀ (b pos : Nat), s.size ≤ pos + b → s.size ≤ pos + 4 * (rns s b pos).length
  | 0, pos, h => by omega
  | b + 1, pos, h => by
    by_cases hp : pos < s.size
    · have hw := width_le s pos
      have hw1 := width_pos s pos hp
      have ih := size_runes s b (pos + (Utf8.decode s pos).2) (by omega)
      rw [rns_step s b pos hp, List.length_cons]
      omega
    · omega
theorem name_size (s : ByteArray) (h : nameOf (runes s) = true) : s.size ≤ 160 := by
  have h1 := size_runes s s.size 0 (by omega)
  unfold nameOf at h
  simp only [Bool.and_eq_true, decide_eq_true_iff] at h
  have h2 : (rns s s.size 0).length ≤ 40 := h.1.1.2
  omega
theorem jn_size : ∀ (L : List (List UInt8)), (∀ x ∈ L, x.length ≤ 160) → (jn L).length ≤ 161 * L.length
  | [], _ => by simp [jn]
  | x :: t, h => by
    have hx := h x List.mem_cons_self
    have ih := jn_size t (fun y hy => h y (List.mem_cons_of_mem _ hy))
    by_cases ht : t = []
    · subst ht; simp [jn]; omega
    · rw [jn_cons x t ht]; simp; omega
end Go.Proofs.YtglkgcpfdhneeaaDoor
