/-
  The walks over the document's own Path, and over the law's own same.
-/
import Derived.Test.YtpodlakkfbjhbaaDoorPie
import Derived.Test.YtpodlakkfbjhbaaDoorPthE
namespace Go.Proofs.YtpodlakkfbjhbaaDoor
set_option linter.unusedVariables false
open Go.ChangeShapes Go.WideShapes Go.ChangeAt Go.RowKit

set_option maxHeartbeats 4000000 in
theorem pathR_any (s : ByteArray) (w : World) (hT : Tabs w) (hs : s.size ≤ 3000) :
    Calls Tryd.prog 15 #[.string s] w fun e w' => PathAns s e w' ∧ Below w.heap.size w w' := by
  by_cases h2 : s.size ≤ 2000
  · have hP := piecesR_any s w (by omega)
    have hpl := pieces_len s
    have h2' : ¬ (2000 : Int) < (s.size : Int) := by omega
    have HAns : Hid (∀ e w', (pieces s).length ≤ 8 → (allPlain s = true → ∃ g c, e = .returned (.tuple #[.slice (some ⟨g, 0, none⟩) (pieces s).length c, .bool true]) ∧ HeldS w' g (pieces s) ∧ (pieces s).length ≤ c) → (allPlain s = false → e = .returned (.tuple #[.slice none 0 0, .bool false])) → PathAns s e w') := by
      intro e w' h8 h1 h2
      unfold PathAns
      by_cases hp : allPlain s = true
      · rw [if_pos ⟨h8, hp⟩]; exact h1 hp
      · rw [if_neg (fun h => hp h.2)]; exact h2 (by simpa using hp)
    have HNo : Hid (∀ e w', ¬ (pieces s).length ≤ 8 → e = .returned (.tuple #[.slice none 0 0, .bool false]) → PathAns s e w') := fun e w' h he => pathAns_no (fun h' => h h'.1) he
    have HAP : Hid (allPlain s = (pieces s).all isPlain) := rfl
    have HSZ : Hid (∀ x ∈ pieces s, x.size ≤ 1048576) := fun x hx => by have := piece_size hx; omega
    generalize pieces s = xs at *
    generalize allPlain s = AP at *
    generalize PathAns s = PA at *
    go_enter Tryd.func15, Tryd.ntmps15
    go_wp2_with fail
    refine hP.mono ?_
    rintro e w1 ⟨⟨v, rfl, hown⟩, hb1⟩
    obtain ⟨g, c, cc, rfl, hg, hgh, hc, hH⟩ := ownS_slice hown hpl.1
    have HH : Hid (HeldS w1 g xs) := hH
    have hT1 := tabs_below hT hb1
    clear hP hown hgh hH
    obtain ⟨n, hn⟩ : ∃ n, xs.length = n := ⟨_, rfl⟩
    have HN : Hid (xs.length = n) := hn
    rw [hn] at hpl hc HAns HNo ⊢
    clear hn
    by_cases h8 : n ≤ 8
    · have h8' : ¬ (8 : Int) < (n : Int) := by omega
      have HAns2 := HAns
      go_wp2_with fail
      go_loopw [16] (fun i wr => ∃ k : Nat, k ≤ n ∧ i = .int .i64 k ∧ Below w1.heap.size w1 wr ∧ xs.all isPlain = (xs.drop k).all isPlain) (fun i _ => n - (intOf i).toNat)
      case atStart => exact ⟨0, by omega, rfl, Below.refl _ _, rfl⟩
      case round =>
        obtain ⟨k, hk, rfl, hbw, hall⟩ := hrel
        have HA : Hid (xs.all isPlain = (xs.drop k).all isPlain) := hall
        clear hall
        have hTr := tabs_below hT1 hbw
        have HB : Hid (Below w.heap.size w wr) := hb1.trans (hbw.mono hb1.size)
        have hsz := HB.out.size
        by_cases hlt : k < n
        · obtain ⟨z, hz⟩ : ∃ z, xs[k]? = some z := ⟨_, List.getElem?_eq_getElem (by have := HN.out; omega)⟩
          have hcell : wr.cell? ⟨g, k, none⟩ = some (.string z) := heldS_old HH.out hbw k z hz
          have hzs : z.size ≤ 1048576 := HSZ.out z (List.mem_of_getElem? hz)
          have HAP2 : Hid (xs.all isPlain = (isPlain z && (xs.drop (k + 1)).all isPlain)) := by
            refine (?_ : _ = _)
            rw [HA.out, all_dropS hz]
          have hPl := plainR_any z wr hTr (by omega)
          clear HA hz
          generalize isPlain z = PZ at *
          cases PZ with
          | false =>
            have HX : Hid (AP = false) := by
              refine (?_ : AP = false)
              rw [HAP.out, HAP2.out]; simp
            go_wp2_with fail
            refine hPl.mono ?_
            rintro e w2 ⟨rfl, hb2⟩
            clear hPl
            go_wp2_with fail
            go_ret2
            refine ⟨HAns.out _ _ h8 (fun h => by rw [HX.out] at h; simp at h) (fun _ => rfl), HB.out.trans (hb2.mono hsz)⟩
          | true =>
            have HX : Hid (xs.all isPlain = (xs.drop (k + 1)).all isPlain) := by
              refine (?_ : _ = _)
              rw [HAP2.out]; simp
            go_wp2_with fail
            refine hPl.mono ?_
            rintro e w2 ⟨rfl, hb2⟩
            have hb3 := hbw.trans (hb2.mono hbw.size)
            clear hPl hb2
            go_wp2_with fail
            go_roundw
            case rel => exact ⟨k + 1, by omega, by go_num, hb3, HX.out⟩
            case measure => simp [intOf]; omega
        · have HX : Hid (AP = true) := by
            refine (?_ : AP = true)
            rw [HAP.out, HA.out, List.drop_eq_nil_of_le (by have := HN.out; omega)]; rfl
          have HH2 : Hid (HeldS wr g xs) := heldS_old HH.out hbw
          clear HA
          go_wp2_with fail
          go_ret2
          refine ⟨HAns.out _ _ h8 (fun _ => ⟨_, _, rfl, HH2.out, hc⟩) (fun h => by rw [HX.out] at h; simp at h), HB.out⟩
    · have h8' : (8 : Int) < (n : Int) := by omega
      go_wp2_with fail
      go_ret2
      exact ⟨HNo.out _ _ h8 rfl, hb1⟩
  · have h2' : (2000 : Int) < (s.size : Int) := by omega
    have HP : Hid (∀ e w', e = .returned (.tuple #[.slice none 0 0, .bool false]) → PathAns s e w') := fun e w' he => pathAns_no (fun h => h2 (path_size s h.1 h.2)) he
    go_enter Tryd.func15, Tryd.ntmps15
    go_wp2_with fail
    go_ret2
    exact ⟨HP.out _ _ rfl, Below.refl _ _⟩

set_option maxHeartbeats 4000000 in
theorem same_nil (w : World) :
    Calls Tryd.prog 16 #[.slice none 0 0, .slice none 0 0] w fun e w' => e = .returned (.bool true) ∧ Below w.heap.size w w' := by
  go_enter Tryd.func16, Tryd.ntmps16
  go_wp2_with fail
  go_loop [13] (fun i => i = .int .i64 0) (fun i => 1 - (intOf i).toNat)
  case atStart => rfl
  case round =>
    subst hrel
    go_wp2_with fail
    go_ret
    exact ⟨rfl, Below.refl _ _⟩
set_option maxHeartbeats 4000000 in
theorem same_any (g1 c1 g2 c2 : Nat) (xs : List ByteArray) (w : World) (h1 : HeldS w g1 xs) (h2 : HeldS w g2 xs) (hl : xs.length ≤ 8) (hc1 : xs.length ≤ c1) (hc2 : xs.length ≤ c2) :
    Calls Tryd.prog 16 #[.slice (some ⟨g1, 0, none⟩) xs.length c1, .slice (some ⟨g2, 0, none⟩) xs.length c2] w fun e w' => e = .returned (.bool true) ∧ Below w.heap.size w w' := by
  obtain ⟨n, hn⟩ : ∃ n, xs.length = n := ⟨_, rfl⟩
  have HN : Hid (xs.length = n) := hn
  rw [hn] at hl hc1 hc2 ⊢
  clear hn
  have H1 : Hid (HeldS w g1 xs) := h1
  have H2 : Hid (HeldS w g2 xs) := h2
  clear h1 h2
  have hnn : ((n : Int) != (n : Int)) = false := by simp
  go_enter Tryd.func16, Tryd.ntmps16
  go_wp2_with fail
  go_loopw [13] (fun i wr => ∃ k : Nat, k ≤ n ∧ i = .int .i64 k ∧ Below w.heap.size w wr) (fun i _ => n - (intOf i).toNat)
  case atStart => exact ⟨0, by omega, rfl, Below.refl _ _⟩
  case round =>
    obtain ⟨k, hk, rfl, hbw⟩ := hrel
    by_cases hlt : k < n
    · obtain ⟨z, hz⟩ : ∃ z, xs[k]? = some z := ⟨_, List.getElem?_eq_getElem (by have := HN.out; omega)⟩
      have hcell1 : wr.cell? ⟨g1, k, none⟩ = some (.string z) := heldS_old H1.out hbw k z hz
      have hcell2 : wr.cell? ⟨g2, k, none⟩ = some (.string z) := heldS_old H2.out hbw k z hz
      have hk0 : (0 : Int) ≤ (k : Int) := by omega
      have hk1 : (k : Int) < (n : Int) := by omega
      clear hz
      go_wp2_with fail
      go_region
      all_goals
        go_wp2_with fail
        go_roundw
        case rel => exact ⟨k + 1, by omega, by go_num, hbw.drew⟩
        case measure => simp [intOf]; omega
    · go_wp2_with fail
      go_ret
      exact ⟨rfl, hbw⟩
end Go.Proofs.YtpodlakkfbjhbaaDoor
