/-
  The walk over the program's own Read.
-/
import Derived.Test.YtkhnicppcbgdiaaGreatDoorM15
namespace Go.Proofs.YtkhnicppcbgdiaaGreatDoor
set_option linter.unusedVariables false
open Go.ChangeShapes Go.WideShapes Go.ChangeAt Go.RowKit

theorem rrow_len (r : Rw) : (rrow r).length = 5 := rfl
/-- rows in memory of the call's own, or an error -/
def ReadAns (T : Nat) (w : World) (o : Option (List Rw)) (e : Ending) (w' : World) : Prop :=
  match o with
  | none => e = .returned (.tuple #[.slice none 0 0, .int .i64 2]) ∧ Below w.heap.size w w'
  | some l => ∃ v, e = .returned (.tuple #[v, .int .i64 0]) ∧ OwnRw w' w.heap.size T v l ∧ Below w.heap.size w w'
theorem numb_fit {l : List Rw} (hn : numb l 0) (hl : l.length ≤ 1000000) (h : ∀ r ∈ l, r.sv.length ≤ 1000000 ∧ r.mt.length ≤ 1000000 ∧ r.inn.length ≤ 1000000 ∧ r.out.length ≤ 1000000) : ∀ r ∈ l, FitRw r := by
  intro r hr
  obtain ⟨j, hj, rfl⟩ := List.getElem_of_mem hr
  have := hn j _ (List.getElem?_eq_getElem hj)
  exact ⟨by omega, h _ hr⟩
set_option maxHeartbeats 4000000 in
set_option maxRecDepth 20000 in
theorem readP_any (t : List UInt8) (w : World) (hM : Mx w) (hP : Pow w) (hs : t.length ≤ 1000000) :
    Calls Tryz.prog 14 #[.string (mkB t)] w fun e w' => ReadAns 50 w (readP t) e w' := by
  have hf := found_any t w hM hs
  have HE : Hid (readP t = match runSt stP [] (segs t.length t) with | none => none | some l => if textT (some []) l = t then some l else none) := rfl
  have HFR : Hid (∀ l, runSt stP [] (segs t.length t) = some l → (∀ r ∈ l, FitRw r) ∧ l.length ≤ 1000000) := by
    refine (?_ : ∀ _, _)
    intro l h
    obtain ⟨a, b, c⟩ := foundP_right h
    refine ⟨numb_fit b (by omega) fun r hr => ?_, by omega⟩
    obtain ⟨_, a1, a2, a3, a4⟩ := a r hr
    exact ⟨by omega, by omega, by omega, by omega⟩
  obtain ⟨R, hR⟩ : ∃ R, readP t = R := ⟨_, rfl⟩
  rw [hR] at HE ⊢
  clear hR
  generalize runSt stP [] (segs t.length t) = F at *
  have HP := Lib.hid hP
  clear hP
  go_enter Tryz.func14, Tryz.ntmps14
  go_wp2_with fail
  refine hf.mono ?_
  intro e w1 hA
  clear hf
  cases F with
  | none =>
    obtain ⟨rfl, hb⟩ := hA
    have HX : Hid (R = none) := HE.out
    have HB := Lib.hid hb
    clear HE hb HFR
    go_wp2_with fail
    go_ret2
    rw [HX.out]
    exact ⟨rfl, HB.out⟩
  | some l =>
    obtain ⟨v, rfl, hO, hb⟩ := hA
    obtain ⟨hfit, hll⟩ := HFR.out l rfl
    have HX : Hid (R = if textT (some []) l = t then some l else none) := HE.out
    have HB := Lib.hid hb
    have HO := Lib.hid hO
    obtain ⟨ra, rc, rfl⟩ := own_slice hO
    have hW := written_any ra l.length rc l w1 (HP.out.below hb) rfl hll hfit (rowsIn_own rrow_len hO _ fun b hv => (own_block hO b hv).2)
    clear HE hb hO HFR hfit
    go_wp2_with fail
    refine hW.mono ?_
    rintro e w2 ⟨rfl, hb⟩
    have HB2 := Lib.hid (HB.out.trans (hb.mono HB.out.size))
    have HO2 := Lib.hid (ownRw_old HO.out hb)
    clear hb hW HO
    by_cases hT : textT (some []) l = t
    · rw [hT] at HX ⊢
      have HX2 : Hid (R = some l) := by
        refine (?_ : _ = _)
        rw [HX.out, if_pos rfl]
      clear HX hT
      go_wp2_with fail
      go_ret2
      rw [HX2.out]
      exact ⟨_, rfl, HO2.out, HB2.out⟩
    · have HX2 : Hid (R = none) := by
        refine (?_ : _ = _)
        rw [HX.out, if_neg hT]
      have h1 : ¬ mkB (textT (some []) l) = mkB t := by
        intro e
        have := congrArg (fun x : ByteArray => x.toList) e
        simp only [mkB_list] at this
        exact hT this
      clear HX
      generalize textT (some []) l = Z at *
      have h2 : ((mkB Z).toList == (mkB t).toList) = false := by
        rw [mkB_list, mkB_list, beq_eq_false_iff_ne]; exact hT
      go_wp2_with fail
      go_ret2
      rw [HX2.out]
      exact ⟨rfl, HB2.out⟩
end Go.Proofs.YtkhnicppcbgdiaaGreatDoor
