/-
  Any declarations have the whole names that the document says: the walk.
-/
import Derived.Test.YtglkgcpfdhneeaaDoorSxC
import Derived.Test.YtglkgcpfdhneeaaDoorUpD
import Derived.BigQuiet
namespace Go.Proofs.YtglkgcpfdhneeaaDoor
set_option linter.unusedVariables false
open Go.ChangeShapes Go.WideShapes Go.ChangeAt Go.RowKit

theorem held_to {f : Nat} {w W : World} {v : Value} {ds : List Dc} (h : HeldD f w (fun b => b < w.heap.size) v ds) (hb : Below w.heap.size w W) : HeldD f W (fun b => b < W.heap.size) v ds :=
  (HeldD.old (fun b hb' => hb.block b hb') h).more fun b hb' => Nat.lt_of_lt_of_le hb' hb.size
set_option maxHeartbeats 16000000 in
set_option maxRecDepth 20000 in
theorem scopeAll_any (v : Value) (f : Nat) (ds : List Dc) (w : World) (hH : HeldD (f + 1) w (fun b => b < w.heap.size) v ds) (hF : FitW (f + 1) ds) :
    Calls Tryd.prog 3 #[v] w fun e w' => e = .returned (.bool true) ∧ Below w.heap.size w w' := by
  obtain ⟨va, vc, rfl⟩ := hH.isSlD
  have HH := Lib.hid hH
  have HF := Lib.hid hF
  clear hH hF
  go_enter Tryd.func3, Tryd.ntmps3
  go_wp2_with fail
  refine (awake7_any _).mono ?_
  rintro e W1 ⟨rfl, hb1⟩
  have HB1 := Lib.hid hb1
  clear hb1
  go_wp2_with fail
  refine (smallY_any (f + 1) ds (.slice va ds.length vc) W1 HF.out (held_to HH.out HB1.out)).mono ?_
  rintro e W2 ⟨⟨b, rfl, hb⟩, hb2⟩
  have HB2 := Lib.hid (HB1.out.trans (hb2.mono HB1.out.size))
  have HSM := Lib.hid hb
  clear hb hb2
  cases b with
  | false =>
    go_wp2_with fail
    refine (awake7_any _).mono ?_
    rintro e W3 ⟨rfl, hb3⟩
    have HB3 := Lib.hid (HB2.out.trans (hb3.mono HB2.out.size))
    clear hb3
    go_wp2_with fail
    go_ret
    exact ⟨rfl, HB3.out⟩
  | true =>
    obtain ⟨hfit, htxt, hct⟩ := HSM.out rfl
    have HFT := Lib.hid hfit
    have HTX := Lib.hid htxt
    have HCT := Lib.hid hct
    clear hfit htxt hct
    go_wp2_with fail
    refine (theirs_any (f + 1) ds (.slice va ds.length vc) W2 HFT.out (held_to HH.out HB2.out)).mono ?_
    rintro e W3 ⟨ta, tc, rfl, hH3, hb3⟩
    have HB3 := Lib.hid (HB2.out.trans (hb3.mono HB2.out.size))
    have HH3 : Hid (HeldD (f + 1) W3 (fun b => b < W3.heap.size) (.slice ta ds.length tc) ds) := hH3.more fun b hb => hb.2
    clear hH3 hb3
    go_wp2_with fail
    refine (AllP_any (f + 1) ds (.slice ta ds.length tc) W3 HFT.out HTX.out HCT.out HH3.out).mono ?_
    rintro e W4 ⟨rv, rfl, hown4, hb4⟩
    have HB4 := Lib.hid (HB3.out.trans (hb4.mono HB3.out.size))
    have HO4 := Lib.hid hown4
    obtain ⟨pa, pc, hrv⟩ := own_slice hown4
    subst hrv
    clear hown4 hb4
    go_wp2_with fail
    refine (AllR_any (f + 1) ds (.slice va ds.length vc) W4 HFT.out HTX.out HCT.out (held_to HH.out HB4.out)).mono ?_
    rintro e W5 ⟨rv, rfl, hown5, hb5⟩
    have HB5 := Lib.hid (HB4.out.trans (hb5.mono HB4.out.size))
    have HO5 := Lib.hid hown5
    have HO4' : Hid (W5.ownsRow W3.heap.size 33 2 (.slice pa (allL (f + 1) [] ds).length pc) (allL (f + 1) [] ds).length ((allL (f + 1) [] ds).flatMap srow)) := own_keep HO4.out fun b hb => hb5.block b (own_block HO4.out b hb).2
    obtain ⟨ra, rc, hrv⟩ := own_slice hown5
    subst hrv
    have hLn := Nat.le_trans (allL_len (f + 1) [] ds) HCT.out
    clear hown5 hb5 HO4
    generalize allL (f + 1) [] ds = L at *
    obtain ⟨n, hn⟩ : ∃ n, L.length = n := ⟨_, rfl⟩
    have HN := Lib.hid hn
    rw [hn] at hLn ⊢
    clear hn
    go_wp2_with fail
    go_loopw [26] (fun i wr => ∃ j : Nat, i = .int .i64 (j : Int) ∧ j ≤ n ∧ Below W5.heap.size W5 wr) (fun i _ => n - (intOf i).toNat)
    case atStart => exact ⟨0, rfl, by omega, Below.refl _ _⟩
    case round =>
      obtain ⟨j, rfl, hj, hbq⟩ := hrel
      have HBQ := Lib.hid hbq
      clear hbq
      by_cases hjn : j < n
      · obtain ⟨x, hx⟩ : ∃ x, L[j]? = some x := ⟨_, List.getElem?_eq_getElem (by have := HN.out; omega)⟩
        obtain ⟨g1, c1, hv1, -, -, e0, e1⟩ := sy_at HO4'.out (W := wr) (fun b hb => HBQ.out.block b (own_block HO4'.out b hb).2) hx
        obtain ⟨g2, c2, hv2, -, -, e2, e3⟩ := sy_at HO5.out (W := wr) (fun b hb => HBQ.out.block b (own_block HO5.out b hb).2) hx
        rw [HN.out] at hv1 hv2
        obtain ⟨rfl, rfl⟩ : pa = some ⟨g1, 0, none⟩ ∧ pc = c1 := by
          injection hv1 with h1 _ h3
          exact ⟨h1, h3⟩
        obtain ⟨rfl, rfl⟩ : ra = some ⟨g2, 0, none⟩ ∧ rc = c2 := by
          injection hv2 with h1 _ h3
          exact ⟨h1, h3⟩
        have hj0 : (0 : Int) ≤ (j : Int) := by omega
        have hj1 : (j : Int) < (n : Int) := by omega
        have hwq : IntKind.i64.wrap ((j : Int) + 1) = (j : Int) + 1 := by rw [IntKind.wrap_i64]; omega
        clear hx hv1 hv2
        go_wp2_with fail
        go_quiet (fail)
        have HBN : Hid (∀ k, Below W5.heap.size W5 (wr.drewN k)) := fun k => ⟨HBQ.out.os, HBQ.out.tape, HBQ.out.output, HBQ.out.size, HBQ.out.block⟩
        go_wp2_with fail
        go_roundw
        case rel => exact ⟨j + 1, by go_num, by omega, HBN.out _⟩
        case measure => simp [intOf]; omega
      · have hjn' : ¬ (j : Int) < (n : Int) := by omega
        have HBE := Lib.hid (HB5.out.trans (HBQ.out.mono HB5.out.size))
        go_wp2_with fail
        go_ret
        exact ⟨rfl, HBE.out⟩
end Go.Proofs.YtglkgcpfdhneeaaDoor
