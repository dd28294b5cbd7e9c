/-
  The document's own Words, as the laws see it; and the walk over the law's own same.
-/
import Derived.Test.YtigbhgkbjijmbaaDoorWdR
import Derived.Test.YtigbhgkbjijmbaaDoorLwL
namespace Go.Proofs.YtigbhgkbjijmbaaDoor
set_option linter.unusedVariables false
open Go.ChangeShapes Go.WideShapes Go.ChangeAt Go.RowKit

theorem flat4_get : ∀ (xs : List Wd) (j : Nat) (x : Wd) (i : Nat), i < 4 → xs[j]? = some x → (xs.flatMap wrow)[j * 4 + i]? = (wrow x)[i]?
  | [], j, x, i, hi, h => by simp at h
  | a :: t, 0, x, i, hi, h => by
    have : a = x := by simpa using h
    subst this
    rw [List.flatMap_cons, List.getElem?_append_left (by simp [wrow]; omega)]; simp
  | a :: t, j + 1, x, i, hi, h => by
    have hl : (wrow a).length = 4 := rfl
    rw [List.flatMap_cons, List.getElem?_append_right (by rw [hl]; omega), hl, show (j + 1) * 4 + i - 4 = j * 4 + i by omega]
    exact flat4_get t j x i hi (by simpa using h)
theorem own_heldW {w : World} {base : Nat} {v : Value} {xs : List Wd} (h : OwnW w base v xs) : ∃ ad c, v = .slice ad xs.length c ∧ HeldW w ad xs ∧ xs.length ≤ c := by
  obtain ⟨hl, ⟨rfl, h0⟩ | ⟨g, cap, cur, rfl, hg, hh, h3, h4, h5, h6⟩⟩ := h
  · exact ⟨none, 0, by rw [h0], .inl (List.eq_nil_of_length_eq_zero h0), by omega⟩
  · refine ⟨_, cap, rfl, .inr ⟨g, rfl, fun j x hj => ?_⟩, h3⟩
    have hjl := (List.getElem?_eq_some_iff.1 hj).1
    have key : ∀ i, i < 4 → w.cell? ⟨g, j * 4 + i, none⟩ = (wrow x)[i]? := fun i hi => by
      have e := flat4_get xs j x i hi hj
      rw [← h6, List.getElem?_take, if_pos (by omega)] at e
      simp only [World.cell?, hh]
      rw [← e]
      simp
    exact ⟨key 0 (by omega), key 1 (by omega), key 2 (by omega), key 3 (by omega)⟩
theorem wordsR_lans (s : ByteArray) (w : World) (hT : Tabs w) (hs : s.size ≤ 9223372036854775807) :
    Calls Tryd.prog 10 #[.string s] w fun e w' => LAns (wordsL s.data.toList) e w' ∧ Below w.heap.size w w' := by
  refine (wordsR_any s w hT hs).mono ?_
  rintro e w' ⟨h, hb⟩
  refine ⟨?_, hb⟩
  unfold WAns at h
  by_cases h0 : (wordsL s.data.toList).2.2 = 0
  · rw [if_pos h0] at h
    obtain ⟨v, he, hown⟩ := h
    obtain ⟨ad, c, hv, hH, hc⟩ := own_heldW hown
    exact ⟨ad, c, 0, 0, by rw [he, hv, h0], hH, hc, fun h => absurd h0 h⟩
  · rw [if_neg h0] at h
    have h1 := words_err _ h0
    exact ⟨none, 0, _, _, by rw [h, h1]; rfl, .inl h1, by rw [h1]; simp, fun _ => ⟨rfl, rfl⟩⟩

set_option maxHeartbeats 4000000 in
theorem sameX_any (a1 a2 : Option Addr) (c1 c2 : Nat) (ws : List Wd) (w : World) (h1 : HeldW w a1 ws) (h2 : HeldW w a2 ws) (hl : ws.length ≤ 4000) (hc1 : ws.length ≤ c1) (hc2 : ws.length ≤ c2) :
    Calls Tryd.prog 11 #[.slice a1 ws.length c1, .slice a2 ws.length c2] w fun e w' => e = .returned (.bool true) ∧ Below w.heap.size w w' := by
  obtain ⟨n, hn⟩ : ∃ n, ws.length = n := ⟨_, rfl⟩
  have HN : Hid (ws.length = n) := hn
  rw [hn] at hl hc1 hc2 ⊢
  clear hn
  have H1 : Hid (HeldW w a1 ws) := h1
  have H2 : Hid (HeldW w a2 ws) := h2
  clear h1 h2
  have hnn : ((n : Int) != (n : Int)) = false := by simp
  go_enter Tryd.func11, Tryd.ntmps11
  go_wp2_with fail
  go_loopw [13] (fun i wr => ∃ k : Nat, k ≤ n ∧ i = .int .i64 k ∧ Below w.heap.size w wr) (fun i _ => n - (intOf i).toNat)
  case atStart => exact ⟨0, by omega, rfl, Below.refl _ _⟩
  case round =>
    obtain ⟨k, hk, rfl, hbw⟩ := hrel
    by_cases hlt : k < n
    · obtain ⟨x, hx⟩ : ∃ x, ws[k]? = some x := ⟨_, List.getElem?_eq_getElem (by have := HN.out; omega)⟩
      obtain ⟨g1, rfl, p0, p1, p2, p3⟩ := heldW_at (heldW_old H1.out hbw) hx
      obtain ⟨g2, rfl, q0, q1, q2, q3⟩ := heldW_at (heldW_old H2.out hbw) hx
      have hk0 : (0 : Int) ≤ (k : Int) := by omega
      have hk1 : (k : Int) < (n : Int) := by omega
      clear hx
      go_wp2_with fail
      go_region
      all_goals
        go_wp2_with fail
        go_roundw
        case rel => exact ⟨k + 1, by omega, by go_num, hbw.drew⟩
        case measure => simp [intOf]; omega
    · go_wp2_with fail
      go_ret
      exact ⟨rfl, hbw⟩
end Go.Proofs.YtigbhgkbjijmbaaDoor
