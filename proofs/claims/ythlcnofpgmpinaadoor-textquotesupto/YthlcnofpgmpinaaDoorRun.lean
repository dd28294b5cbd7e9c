/-
  The runes of a text, and the walks over the document's own Letter, digit and Runes: of a valid text its runes come, in new memory; else none.
-/
import Derived.Test.YthlcnofpgmpinaaDoorTab
import Derived.Test.YthlcnofpgmpinaaDoorRn
import Derived.WalkKit
import Derived.ProofKit
import Derived.Laws.IdiomStrings
namespace Go.Proofs.YthlcnofpgmpinaaDoor
set_option linter.unusedVariables false
open Go.ChangeShapes Go.WideShapes Go.ChangeAt Go.RowKit

/-- runes lie in memory, from a block's first place on -/
def HeldR (w : World) (g : Nat) (rs : List Int) : Prop := ∀ j z, rs[j]? = some z → w.cell? ⟨g, j, none⟩ = some (.int .i32 z)
theorem heldR_old {w w' : World} {g : Nat} {rs : List Int} (h : HeldR w g rs) (hb : Below w.heap.size w w') : HeldR w' g rs := by
  intro j z hj
  have hc := h j z hj
  have hlt : g < w.heap.size := by
    by_cases hg : g < w.heap.size
    · exact hg
    · simp [World.cell?, Array.getElem?_eq_none (Nat.le_of_not_lt hg)] at hc
  rw [hb.cell hlt]; exact hc

/-- []rune(s) -/
theorem run_runes (s : ByteArray) (w : World) (h : s.size ≤ 70368744177664) :
    ∃ c w', (convert 9 31 (.string s)).run Tryd.prog w = .ok (.slice (some ⟨w.heap.size, 0, none⟩) (runes s).length c) w' ∧ HeldR w' w.heap.size (runes s) ∧ (runes s).length ≤ c ∧ Below w.heap.size w w' := by
  have hl := runes_len s
  have hr := run_runes_of_string (P := Tryd.prog) w 9 31 21 s Tryd.underlying9 Tryd.underlying31 Tryd.underlying21 (by rw [runes_eq]; simp; omega)
  rw [runes_eq] at hr
  simp only [List.size_toArray, List.length_map] at hr
  refine ⟨_, _, hr, ?_, grownCap_ge _ _ _ _, ((Below.refl _ _).drew).alloc (by simp) _⟩
  intro j z hj
  have hlt := (List.getElem?_eq_some_iff.1 hj).1
  have e : (w.drew.alloc (.cells (((runes s).map (Value.int .i32)).toArray ++ Array.replicate (grownCap w (runes s).length 0 21 - (runes s).length) (.int .i32 0)) 21)).cell? ⟨w.drew.heap.size, j, none⟩ = (((runes s).map (Value.int .i32)).toArray ++ Array.replicate (grownCap w (runes s).length 0 21 - (runes s).length) (.int .i32 0))[j]? := World.cell?_alloc_new _ _ _ _
  have e2 : w.drew.heap.size = w.heap.size := rfl
  rw [e2] at e
  rw [e, Array.getElem?_append_left (by simpa using hlt)]
  simp [hj]
set_option maxHeartbeats 2000000 in
set_option maxRecDepth 20000 in
theorem runesR_any (s : ByteArray) (w : World) (hT : Tabs w) (h : s.size ≤ 70368744177664) :
    Calls Tryd.prog 10 #[.string s] w fun e w' =>
      (if Lib.validD s.data.toList = true then ∃ g c, e = .returned (.tuple #[.slice (some ⟨g, 0, none⟩) (runes s).length c, .bool true]) ∧ HeldR w' g (runes s) ∧ (runes s).length ≤ c
        else e = .returned (.tuple #[.slice none 0 0, .bool false])) ∧ Below w.heap.size w w' := by
  have hv := utf8_ValidString s w (by omega) hT
  obtain ⟨V, hV⟩ : ∃ V, Lib.validD s.data.toList = V := ⟨_, rfl⟩
  rw [hV] at hv ⊢
  cases V with
  | false =>
    go_enter Tryd.func10, Tryd.ntmps10
    go_wp2_with fail
    refine hv.mono ?_
    rintro e w1 ⟨rfl, hb⟩
    go_wp2_with fail
    go_ret2
    exact ⟨rfl, hb⟩
  | true =>
    go_enter Tryd.func10, Tryd.ntmps10
    go_wp2_with fail
    refine hv.mono ?_
    rintro e w1 ⟨rfl, hb⟩
    obtain ⟨c, w2, hr, hH, hc, hb2⟩ := run_runes s w1 h
    go_wp2_with fail
    go_ret2
    exact ⟨⟨_, c, rfl, hH, hc⟩, hb.trans (hb2.mono hb.size)⟩
end Go.Proofs.YthlcnofpgmpinaaDoor
