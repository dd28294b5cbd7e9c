/-
  The walk over the law TextQuotes.
-/
import Derived.Test.YthlcnofpgmpinaaDoorQtR
namespace Go.Proofs.YthlcnofpgmpinaaDoor
set_option linter.unusedVariables false
open Go.ChangeShapes Go.WideShapes Go.ChangeAt Go.RowKit

theorem awake12_q : quoteA (ByteArray.mk #[97, 34, 10]).data.toList = [34, 97, 92, 34, 92, 110, 34] := by
  rw [quoteA_yes (by decide +kernel)]; decide +kernel
set_option maxHeartbeats 2000000 in
theorem awake12_any (w : World) (hT : Tabs w) : Calls Tryd.prog 4 #[] w fun e w' => e = .returned (.bool true) ∧ Below w.heap.size w w' := by
  have h := quoteP_any ⟨#[97, 34, 10]⟩ w hT (by decide)
  rw [awake12_q] at h
  go_enter Tryd.func4, Tryd.ntmps4
  go_wp2_with fail
  refine h.mono ?_
  rintro e w1 ⟨rfl, hb1⟩
  have HB1 := Lib.hid hb1
  clear h hb1
  go_wp2_with fail
  go_ret
  exact ⟨rfl, HB1.out⟩
set_option maxHeartbeats 2000000 in
theorem textQuotes_any (s : ByteArray) (w : World) (hT : Tabs w) (h : s.size ≤ 1048576) : Calls Tryd.prog 3 #[.string s] w fun e w' => e = .returned (.bool true) ∧ Below w.heap.size w w' := by
  have ha := awake12_any w hT
  have HP : Hid (∀ W, Below w.heap.size w W → Calls Tryd.prog 5 #[.string s] W fun e w' => e = .returned (.string ⟨(quoteA s.data.toList).toArray⟩) ∧ Below w.heap.size w w') := fun W hW => (quoteP_any s W (tabs_below hT hW) h).mono fun e w' ⟨h1, h2⟩ => ⟨h1, hW.trans (h2.mono hW.size)⟩
  have HR : Hid (∀ W, Below w.heap.size w W → Calls Tryd.prog 6 #[.string s] W fun e w' => e = .returned (.string ⟨(quoteA s.data.toList).toArray⟩) ∧ Below w.heap.size w w') := fun W hW => (quoteR_any s W (tabs_below hT hW) h).mono fun e w' ⟨h1, h2⟩ => ⟨h1, hW.trans (h2.mono hW.size)⟩
  generalize (⟨(quoteA s.data.toList).toArray⟩ : ByteArray) = Z at HP HR
  clear hT h
  go_enter Tryd.func3, Tryd.ntmps3
  go_wp2_with fail
  refine ha.mono ?_
  rintro e w1 ⟨rfl, hb1⟩
  clear ha
  have hp := HP.out w1 hb1
  clear hb1
  go_wp2_with fail
  refine hp.mono ?_
  rintro e w2 ⟨rfl, hb2⟩
  clear hp
  have hr := HR.out w2 hb2
  clear hb2
  go_wp2_with fail
  refine hr.mono ?_
  rintro e w3 ⟨rfl, hb3⟩
  have HB3 := Lib.hid hb3
  clear hr hb3
  go_wp2_with fail
  go_ret
  exact ⟨rfl, HB3.out⟩
end Go.Proofs.YthlcnofpgmpinaaDoor
