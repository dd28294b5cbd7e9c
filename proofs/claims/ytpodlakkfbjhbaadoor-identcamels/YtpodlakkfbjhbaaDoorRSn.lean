/-
  The walk over the document's own Snake.
-/
import Derived.Test.YtpodlakkfbjhbaaDoorRCam
import Derived.Test.YtpodlakkfbjhbaaDoorDSn
namespace Go.Proofs.YtpodlakkfbjhbaaDoor
set_option linter.unusedVariables false
open Go.ChangeShapes Go.WideShapes Go.ChangeAt Go.RowKit

set_option maxHeartbeats 4000000 in
theorem snakeR_any (s : ByteArray) (w : World) (hT : Tabs w) (hs : s.size ≤ 1048576) :
    Calls Tryd.prog 20 #[.string s] w fun e w' => e = .returned (.string ⟨(if nameOf (runes s) = true ∧ (snakeL true (runes s)).length ≤ 40 then encL (snakeL true (runes s)) else []).toArray⟩) ∧ Below w.heap.size w w' := by
  have hN := nameR_any s w hT (by omega)
  rw [isName_eq] at hN
  have hrl := runes_len s
  obtain ⟨R, hR⟩ : ∃ R : List UInt8, (if nameOf (runes s) = true ∧ (snakeL true (runes s)).length ≤ 40 then encL (snakeL true (runes s)) else []) = R := ⟨_, rfl⟩
  rw [hR]
  have hRun := fun W => run_runes s W (by omega)
  generalize runes s = l at *
  obtain ⟨N, hNN⟩ : ∃ N, nameOf l = N := ⟨_, rfl⟩
  rw [hNN] at hN hR
  cases N with
  | false =>
    obtain rfl : [] = R := by rw [← hR, if_neg (by simp)]
    clear hR hNN
    go_enter Tryd.func20, Tryd.ntmps20
    go_wp2_with fail
    refine hN.mono ?_
    rintro e w1 ⟨rfl, hb⟩
    go_wp2_with fail
    go_ret
    exact ⟨rfl, hb⟩
  | true =>
    have HR : Hid ((if (snakeL true l).length ≤ 40 then encL (snakeL true l) else []) = R) := by
      refine (?_ : _ = R)
      rw [← hR]; simp
    clear hR hNN
    go_enter Tryd.func20, Tryd.ntmps20
    go_wp2_with fail
    refine hN.mono ?_
    rintro e w1 ⟨rfl, hb1⟩
    obtain ⟨c, w2, hr, hH, hc, hb2⟩ := hRun w1
    have HB : Hid (Below w.heap.size w w2) := hb1.trans (hb2.mono hb1.size)
    have hsz : w.heap.size ≤ w2.heap.size := HB.out.size
    have HH : Hid (HeldR w2 w1.heap.size l) := hH
    clear hN hRun hb1 hb2 hH
    obtain ⟨n, hn⟩ : ∃ n, l.length = n := ⟨_, rfl⟩
    rw [hn] at hr hrl hc
    have HN : Hid (l.length = n) := hn
    clear hn
    go_wp2_with fail
    clear hr
    go_loopw [3, 14] (fun o i wr => ∃ (k : Nat) (f : Bool) (acc : List Int), k ≤ n ∧ i = .int .i64 k ∧ (f = true ↔ k = 0) ∧ OwnR wr w2.heap.size o acc ∧ Below w2.heap.size w2 wr ∧ acc.length ≤ 2 * k ∧ acc ++ snakeL f (l.drop k) = snakeL true l) (fun _ i _ => n - (intOf i).toNat)
    case atStart => exact ⟨0, true, [], by omega, rfl, by simp, ownR_nil _ _, Below.refl _ _, by simp, rfl⟩
    case round =>
      obtain ⟨k, f, acc, hk, rfl, hf, hown, hbw, hal, hacc⟩ := hrel
      have HA : Hid (acc ++ snakeL f (l.drop k) = snakeL true l) := hacc
      have HF : Hid (f = true ↔ k = 0) := hf
      clear hacc hf
      obtain ⟨oa, oc, rfl⟩ := ownR_slice hown
      have hszr := hbw.size
      have HF2 : Hid (false = true ↔ k + 1 = 0) := by
        refine (?_ : _ ↔ _)
        simp
      by_cases hlt : k < n
      · obtain ⟨z, hz⟩ : ∃ z, l[k]? = some z := ⟨_, List.getElem?_eq_getElem (by have := HN.out; omega)⟩
        have hcell : wr.cell? ⟨w1.heap.size, k, none⟩ = some (.int .i32 z) := heldR_old HH.out hbw k z hz
        have HA2 : Hid (acc ++ snakeL f (z :: l.drop (k + 1)) = snakeL true l) := by
          refine (?_ : _ = _)
          rw [← drop_at hz]; exact HA.out
        clear HA hz
        by_cases hG : isGreat z = true
        · have hzb : 65 ≤ z ∧ z ≤ 90 := by simpa [isGreat] using hG
          obtain ⟨hz1, hz2⟩ := hzb
          have e32 : IntKind.i32.wrap (z + 32) = z + 32 := by rw [IntKind.wrap_i32]; omega
          by_cases hk0 : k = 0
          · subst hk0
            obtain rfl : f = true := HF.out.2 rfl
            have HX : Hid ((acc ++ [z + 32]) ++ snakeL false (l.drop (0 + 1)) = snakeL true l) := by
              refine (?_ : _ = _)
              have := HA2.out; rw [snake_first _ _ hG] at this
              rw [← this]; simp
            clear HA2 hG HF
            go_wp2_with (at_builtin; refine wpR_push rfl _ _ rfl w2.heap.size (.slice oa acc.length oc) acc (z + 32) rfl hown rfl (by omega) hszr ?_)
            intro v' wx hown' hb'
            obtain ⟨va, vc, rfl⟩ := ownR_slice hown'
            go_wp2_with fail
            go_roundw
            case rel => exact ⟨0 + 1, false, acc ++ [z + 32], by omega, by go_num, HF2.out, hown', hbw.trans hb', by simp; omega, HX.out⟩
            case measure => simp [intOf]; omega
          · obtain rfl : f = false := by
              cases f with
              | false => rfl
              | true => exact absurd (HF.out.1 rfl) hk0
            have hk1 : (0 : Int) < (k : Int) := by omega
            have HX : Hid (((acc ++ [95]) ++ [z + 32]) ++ snakeL false (l.drop (k + 1)) = snakeL true l) := by
              refine (?_ : _ = _)
              have := HA2.out; rw [snake_great _ _ hG] at this
              rw [← this]; simp
            clear HA2 hG HF
            go_wp2_with (at_builtin; refine wpR_push rfl _ _ rfl w2.heap.size (.slice oa acc.length oc) acc 95 rfl hown rfl (by omega) hszr ?_)
            intro v' wx hown' hb'
            obtain ⟨va, vc, rfl⟩ := ownR_slice hown'
            have hszx := hb'.size
            have hlx : (acc ++ [95]).length ≤ 1000000000 := by simp; omega
            generalize hax : acc ++ [95] = accx at *
            have HAX : Hid (acc ++ [95] = accx) := hax
            clear hax
            go_wp2_with (at_builtin; refine wpR_push rfl _ _ rfl w2.heap.size (.slice va accx.length vc) accx (z + 32) rfl hown' rfl hlx (by omega) ?_)
            intro v' wy hown2 hb2'
            obtain ⟨vb, vd, rfl⟩ := ownR_slice hown2
            go_wp2_with fail
            go_roundw
            case rel => exact ⟨k + 1, false, accx ++ [z + 32], by omega, by go_num, HF2.out, hown2, (hbw.trans hb').trans hb2', by rw [← HAX.out]; simp; omega, HX.out⟩
            case measure => simp [intOf]; omega
        · have hGf : isGreat z = false := by simpa using hG
          have HX : Hid ((acc ++ [z]) ++ snakeL false (l.drop (k + 1)) = snakeL true l) := by
            refine (?_ : _ = _)
            have := HA2.out; rw [snake_stay f _ _ hGf] at this
            rw [← this]; simp
          have hcase : z < 65 ∨ (65 ≤ z ∧ 90 < z) := by
            rw [isGreat, decide_eq_false_iff_not] at hGf; omega
          clear HA2 hG hGf HF
          rcases hcase with h1 | ⟨h1, h2⟩
          all_goals
            go_wp2_with (at_builtin; refine wpR_push rfl _ _ rfl w2.heap.size (.slice oa acc.length oc) acc z rfl hown rfl (by omega) hszr ?_)
            intro v' wx hown' hb'
            obtain ⟨va, vc, rfl⟩ := ownR_slice hown'
            go_wp2_with fail
            go_roundw
            case rel => exact ⟨k + 1, false, acc ++ [z], by omega, by go_num, HF2.out, hown', hbw.trans hb', by simp; omega, HX.out⟩
            case measure => simp [intOf]; omega
      · have hsr := ownR_str hown
        have HX : Hid (acc = snakeL true l) := by
          refine (?_ : acc = _)
          have := HA.out
          rw [List.drop_eq_nil_of_le (by have := HN.out; omega), snakeL, List.append_nil] at this
          exact this
        have HR2 : Hid ((if acc.length ≤ 40 then encL acc else []) = R) := by
          refine (?_ : _ = R)
          rw [HX.out]; exact HR.out
        clear HA HX HR
        by_cases h40 : acc.length ≤ 40
        · obtain rfl : encL acc = R := by rw [← HR2.out, if_pos h40]
          have hn40 : ¬ (40 : Int) < (acc.length : Int) := by omega
          go_wp2_with fail
          go_ret
          exact ⟨rfl, HB.out.trans (hbw.mono hsz)⟩
        · obtain rfl : [] = R := by rw [← HR2.out, if_neg h40]
          have hn40 : (40 : Int) < (acc.length : Int) := by omega
          go_wp2_with fail
          go_ret
          exact ⟨rfl, HB.out.trans (hbw.mono hsz)⟩
/-- the document's small form is the program's -/
theorem snake_same (s : ByteArray) : (if nameOf (runes s) = true ∧ (snakeL true (runes s)).length ≤ 40 then encL (snakeL true (runes s)) else []) = (if nameOf (runes s) = true ∧ Lib.runeCount ⟨(encL (snakeL true (runes s))).toArray⟩ ≤ 40 then encL (snakeL true (runes s)) else []) := by
  by_cases h : nameOf (runes s) = true
  · have hs2 := snake_name (runes s) true (name_all h)
    have hr2 : runes ⟨(encL (snakeL true (runes s))).toArray⟩ = snakeL true (runes s) := runes_enc _ (fun r hr => two_of_name (hs2 r hr))
    rw [runeCount_runes, hr2]
  · simp [h]
end Go.Proofs.YtpodlakkfbjhbaaDoor
