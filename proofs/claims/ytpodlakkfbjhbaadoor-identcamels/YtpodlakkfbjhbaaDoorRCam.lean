/-
  The walk over the document's own Camel.
-/
import Derived.Test.YtpodlakkfbjhbaaDoorRSl
import Derived.Test.YtpodlakkfbjhbaaDoorDCam
namespace Go.Proofs.YtpodlakkfbjhbaaDoor
set_option linter.unusedVariables false
open Go.ChangeShapes Go.WideShapes Go.ChangeAt Go.RowKit

set_option maxHeartbeats 4000000 in
theorem camelR_any (s : ByteArray) (w : World) (hT : Tabs w) (hs : s.size ≤ 1048576) :
    Calls Tryd.prog 18 #[.string s] w fun e w' => e = .returned (.string ⟨(if nameOf (runes s) = true then encL (camelL true (runes s)) else []).toArray⟩) ∧ Below w.heap.size w w' := by
  have hN := nameR_any s w hT (by omega)
  rw [isName_eq] at hN
  have hrl := runes_len s
  obtain ⟨R, hR⟩ : ∃ R : List UInt8, (if nameOf (runes s) = true then encL (camelL true (runes s)) else []) = R := ⟨_, rfl⟩
  rw [hR]
  have hRun := fun W => run_runes s W (by omega)
  generalize runes s = l at *
  obtain ⟨N, hNN⟩ : ∃ N, nameOf l = N := ⟨_, rfl⟩
  rw [hNN] at hN hR
  cases N with
  | false =>
    obtain rfl : [] = R := by rw [← hR, if_neg (by decide)]
    clear hR hNN
    go_enter Tryd.func18, Tryd.ntmps18
    go_wp2_with fail
    refine hN.mono ?_
    rintro e w1 ⟨rfl, hb⟩
    go_wp2_with fail
    go_ret
    exact ⟨rfl, hb⟩
  | true =>
    obtain rfl : encL (camelL true l) = R := by rw [← hR, if_pos rfl]
    clear hR hNN
    go_enter Tryd.func18, Tryd.ntmps18
    go_wp2_with fail
    refine hN.mono ?_
    rintro e w1 ⟨rfl, hb1⟩
    obtain ⟨c, w2, hr, hH, hc, hb2⟩ := hRun w1
    have HB : Hid (Below w.heap.size w w2) := hb1.trans (hb2.mono hb1.size)
    have hsz : w.heap.size ≤ w2.heap.size := HB.out.size
    have HH : Hid (HeldR w2 w1.heap.size l) := hH
    clear hN hRun hb1 hb2 hH
    obtain ⟨n, hn⟩ : ∃ n, l.length = n := ⟨_, rfl⟩
    rw [hn] at hr hrl hc
    have HN : Hid (l.length = n) := hn
    clear hn
    go_wp2_with fail
    clear hr
    go_loopw [3, 4, 15] (fun o f i wr => ∃ (k : Nat) (b : Bool) (acc : List Int), k ≤ n ∧ i = .int .i64 k ∧ f = .bool b ∧ OwnR wr w2.heap.size o acc ∧ Below w2.heap.size w2 wr ∧ acc.length ≤ k ∧ acc ++ camelL b (l.drop k) = camelL true l) (fun _ _ i _ => n - (intOf i).toNat)
    case atStart => exact ⟨0, true, [], by omega, rfl, rfl, ownR_nil _ _, Below.refl _ _, by simp, rfl⟩
    case round =>
      obtain ⟨k, b, acc, hk, rfl, rfl, hown, hbw, hal, hacc⟩ := hrel
      have HA : Hid (acc ++ camelL b (l.drop k) = camelL true l) := hacc
      clear hacc
      obtain ⟨oa, oc, rfl⟩ := ownR_slice hown
      have hszr := hbw.size
      by_cases hlt : k < n
      · obtain ⟨z, hz⟩ : ∃ z, l[k]? = some z := ⟨_, List.getElem?_eq_getElem (by have := HN.out; omega)⟩
        have hcell : wr.cell? ⟨w1.heap.size, k, none⟩ = some (.int .i32 z) := heldR_old HH.out hbw k z hz
        have HA2 : Hid (acc ++ camelL b (z :: l.drop (k + 1)) = camelL true l) := by
          refine (?_ : _ = _)
          rw [← drop_at hz]; exact HA.out
        clear HA hz
        by_cases h95 : z = 95
        · subst h95
          have HX : Hid (acc ++ camelL true (l.drop (k + 1)) = camelL true l) := by
            refine (?_ : _ = _)
            have := HA2.out; rwa [camel_skip] at this
          clear HA2
          go_wp2_with fail
          go_roundw
          case rel => exact ⟨k + 1, true, acc, by omega, by go_num, rfl, hown, hbw, by omega, HX.out⟩
          case measure => simp [intOf]; omega
        · have h95' : (z == 95) = false := by simpa using h95
          obtain ⟨S, hS⟩ : ∃ S, isSmall z = S := ⟨_, rfl⟩
          by_cases hbS : (b && S) = true
          · simp only [Bool.and_eq_true] at hbS
            obtain ⟨rfl, rfl⟩ := hbS
            have hzb : 97 ≤ z ∧ z ≤ 122 := by simpa [isSmall] using hS
            obtain ⟨hz1, hz2⟩ := hzb
            have HX : Hid ((acc ++ [z - 32]) ++ camelL false (l.drop (k + 1)) = camelL true l) := by
              refine (?_ : _ = _)
              have := HA2.out; rw [camel_up _ _ hS] at this
              rw [← this]; simp
            have e32 : IntKind.i32.wrap (z - 32) = z - 32 := by rw [IntKind.wrap_i32]; omega
            clear HA2 hS h95
            go_wp2_with (at_builtin; refine wpR_push rfl _ _ rfl w2.heap.size (.slice oa acc.length oc) acc (z - 32) rfl hown rfl (by omega) hszr ?_)
            intro v' wx hown' hb'
            obtain ⟨va, vc, rfl⟩ := ownR_slice hown'
            go_wp2_with fail
            go_roundw
            case rel => exact ⟨k + 1, false, acc ++ [z - 32], by omega, by go_num, rfl, hown', hbw.trans hb', by simp; omega, HX.out⟩
            case measure => simp [intOf]; omega
          · have hbS' : (b && S) = false := by simpa using hbS
            have HX : Hid ((acc ++ [z]) ++ camelL false (l.drop (k + 1)) = camelL true l) := by
              refine (?_ : _ = _)
              have := HA2.out; rw [camel_stay b _ _ h95 (by rw [hS]; exact hbS')] at this
              rw [← this]; simp
            have hcase : b = false ∨ (b = true ∧ z < 97) ∨ (b = true ∧ 97 ≤ z ∧ 122 < z) := by
              cases b with
              | false => exact .inl rfl
              | true =>
                simp only [Bool.true_and] at hbS'
                rw [hbS', isSmall, decide_eq_false_iff_not] at hS
                by_cases h1 : z < 97
                · exact .inr (.inl ⟨rfl, h1⟩)
                · exact .inr (.inr ⟨rfl, by omega, by omega⟩)
            clear HA2 hS h95 hbS hbS'
            rcases hcase with rfl | ⟨rfl, h1⟩ | ⟨rfl, h1, h2⟩
            all_goals
              go_wp2_with (at_builtin; refine wpR_push rfl _ _ rfl w2.heap.size (.slice oa acc.length oc) acc z rfl hown rfl (by omega) hszr ?_)
              intro v' wx hown' hb'
              obtain ⟨va, vc, rfl⟩ := ownR_slice hown'
              go_wp2_with fail
              go_roundw
              case rel => exact ⟨k + 1, false, acc ++ [z], by omega, by go_num, rfl, hown', hbw.trans hb', by simp; omega, HX.out⟩
              case measure => simp [intOf]; omega
      · have hsr := ownR_str hown
        have HX : Hid (acc = camelL true l) := by
          refine (?_ : acc = _)
          have := HA.out
          rw [List.drop_eq_nil_of_le (by have := HN.out; omega), camelL, List.append_nil] at this
          exact this
        clear HA
        go_wp2_with fail
        go_ret
        rw [HX.out]
        exact ⟨rfl, HB.out.trans (hbw.mono hsz)⟩
end Go.Proofs.YtpodlakkfbjhbaaDoor
