/-
  The table of four steps in memory, and the walks over one step, by the program and by the document's own.
-/
import Derived.Test.YtckbplhplpnhaaaDoorCrM
import Derived.Test.YtckbplhplpnhaaaDoorCat
import Derived.Laws.BitsAllLaws
import Derived.Lib.Hide
import Derived.Lib.LaidTab
import Derived.Lib.AppendIntMem
namespace Go.Proofs.YtckbplhplpnhaaaDoor
set_option linter.unusedVariables false
open Go.ChangeShapes Go.WideShapes Go.ChangeAt Go.RowKit

def tabI : List Int := [0, 498536548, 997073096, 651767980, 1994146192, 1802195444, 1303535960, 1342533948, 3988292384, 4027552580, 3604390888, 3412177804, 2607071920, 2262029012, 2685067896, 3183342108]
/-- the table, as a word of its own -/
def tabN (i : Nat) : Nat := tabC.getD i 0
theorem tabI_at : ∀ i : Fin 16, tabI.getD i.val 0 = ((tabN i.val : Nat) : Int) := by decide +kernel
/-- the program's table lies in memory -/
def Shf (w : World) : Prop := Lib.TabIs Tryd.prog w "courier/crc.shifts" .u32 tabI
theorem Shf.tab {w : World} (h : Shf w) : Lib.TabBelow Tryd.prog w.heap.size w "courier/crc.shifts" .u32 tabI := Lib.tabBelow_of_tabIs h
theorem Shf.below {w w' : World} (h : Shf w) (hb : Below w.heap.size w w') : Shf w' := h.tab w' hb
theorem Shf.at {w : World} (h : Shf w) (i : Nat) (hi : i < 16) : w.cell? ⟨0, i, none⟩ = some (.int .u32 (tabN i : Nat)) := by
  have := Lib.TabIs.cell h (show Tryd.prog.globalNamed "courier/crc.shifts" = some 0 by kernel_rfl) i hi
  rw [this, tabI_at ⟨i, hi⟩]

theorem and_one (x : Nat) (h : x < 4294967296) : bits .and .u32 (x : Int) 1 = ((x % 2 : Nat) : Int) := by
  have := u32_and_nat x 1 h (by omega)
  rw [Nat.and_one_is_mod] at this
  exact this
theorem and_fif (x : Nat) (h : x < 4294967296) : bits .and .u32 (x : Int) 15 = ((x % 16 : Nat) : Int) := by
  have := u32_and_nat x 15 h (by omega)
  rw [show (15 : Nat) = 2 ^ 4 - 1 by decide, Nat.and_two_pow_sub_one_eq_mod] at this
  exact this
theorem xor_of (x y : Nat) (h : x < 4294967296) (h2 : y < 4294967296) : bits .xor .u32 (x : Int) (y : Int) = ((x ^^^ y : Nat) : Int) := u32_xor_nat x y h h2
theorem st1_odd {x : Nat} (h : x % 2 = 1) : st1 x = (x / 2) ^^^ 3988292384 := by unfold st1; rw [if_pos h]

set_option maxHeartbeats 1000000 in
theorem shift_any (x : Nat) (w : World) (h : x < 4294967296) :
    Calls Tryd.prog 34 #[.int .u32 x] w fun e w' => e = .returned (.int .u32 (st1 x : Nat)) ∧ w' = w := by
  have ha := and_one x h
  have hx := xor_of (x / 2) 3988292384 (by omega) (by omega)
  rw [Int.natCast_ediv] at hx
  rcases (by omega : x % 2 = 0 ∨ x % 2 = 1) with hm | hm
  · rw [hm] at ha
    have e := st1_even hm
    clear hm hx
    go_enter Tryd.func34, Tryd.ntmps34
    go_wp2
    go_ret
    exact ⟨ret_int (by rw [e]; omega), rfl⟩
  · rw [hm] at ha
    have e := st1_odd hm
    clear hm
    have HX := Lib.hid hx
    clear hx
    go_enter Tryd.func34, Tryd.ntmps34
    go_wp2
    go_ret
    exact ⟨ret_int (by rw [e, ← HX.out]; rfl), rfl⟩
end Go.Proofs.YtckbplhplpnhaaaDoor
