/-
  The Go function VarintLong answers true for every number and every count of bytes more; its arguments read afterwards as before: the same number in more bytes than it needs is the same number. No condition.
-/
import Derived.Test.YtndknaiicmkeiaaRows
import Derived.WalkKit
import Derived.ProofKit
import Derived.OpenShut
import Derived.ShutString
import Derived.SizedLaws
import Derived.Below
import Derived.ChangeOld
import Derived.Deep.RegionWith
import Derived.Deep.RegionLaw
import Derived.Deep.DeepCutAuto
import Derived.Test.YtndknaiicmkeiaaBase
import Derived.Test.YtndknaiicmkeiaaMem
import Derived.Test.YtndknaiicmkeiaaTake
import Derived.Test.YtndknaiicmkeiaaApp
import Derived.Test.YtndknaiicmkeiaaCat
import Derived.Test.YtndknaiicmkeiaaVarR
import Derived.Test.YtndknaiicmkeiaaLong
namespace Go.Proofs.Ytndknaiicmkeiaa.varintLong
open Go.ChangeShapes Go.WideShapes Go.ChangeAt Go.RowKit
open Go.ChangeMaps (open_string shut_string)
set_option linter.unusedVariables false      -- a walk need not use every 'w<i>' (that an integer argument fits its kind)

theorem own : ownKnob Try.prog.godebug = none := by kernel_rfl

set_option maxHeartbeats 1000000 in
theorem walk (a0 : Int) (a1 : Int) (w0 : (Lit.int .u64 a0).wf = true) (w1 : (Lit.int .u8 a1).wf = true) (w : World) :
    Calls Try.prog 6 #[.int .u64 a0, .int .u8 a1] w fun e w' => e = .returned (.bool true) ∧ Below w.heap.size w w' := by
  obtain ⟨hn0, hn1⟩ := bd_u64 w0
  obtain ⟨hc0, hc1⟩ := bd_u8 w1
  obtain ⟨n, rfl⟩ := Int.eq_ofNat_of_zero_le hn0
  have hn : n ≤ 18446744073709551615 := by omega
  have HN : Hid (n ≤ 18446744073709551615) := hn
  have HL0 : Hid ((vint n).length ≤ 10 ∧ 1 ≤ (vint n).length) := ⟨vint_ten hn, vint_pos n⟩
  have HV0 : Hid (0 ≤ (n : Int) ∧ (n : Int) ≤ 18446744073709551615) := ⟨hn0, hn1⟩
  have HD0 : Hid (dec 0 0 (vint n) = ((n : Int), ((vint n).length : Int), 0)) := by
    have := dec_vint n 0 0 [] (by simp) (by omega) (by simp; omega)
    refine (?_ : dec 0 0 (vint n) = _)
    rw [List.append_nil] at this
    rw [show (0 : Int) = ((0 : Nat) : Int) from rfl, this]
    simp
  obtain ⟨r, hr⟩ := Int.eq_ofNat_of_zero_le (show 0 ≤ a1 % 10 by omega)
  have hr9 : r ≤ 9 := by omega
  have hr1 : (r : Int) ≤ a1 % 10 := by omega
  have hr2 : a1 % 10 ≤ (r : Int) := by omega
  clear hr
  have HVB : Hid (∀ z ∈ vint n, 0 ≤ z ∧ z ≤ 255) := vint_bytes n
  clear w0 w1 hn hn0 hn1
  go_enter Try.func6, Try.ntmps6
  go_wp2_with fail
  refine (varintR_any _ w.heap.size [] n _ (.inl (own_nil _ _)) HN.out (by simp) (Nat.le_refl _)).mono ?_
  rintro e w1 ⟨v1, rfl, hown, hbel⟩
  rw [List.nil_append] at hown
  have HO1 : Hid (OwnB w1 w.heap.size v1 (vint n)) := hown
  have HB1 : Hid (Below w.heap.size w w1) := hbel
  clear hown hbel
  go_wp2_with fail
  go_loopw [5, 13] (fun v i wr => ∃ (k : Nat) (xs : List Int), k ≤ r ∧ i = .int .u8 k ∧ dec 0 0 xs = ((n : Int), (xs.length : Int), 0) ∧ (∀ z ∈ xs, 0 ≤ z ∧ z ≤ 255) ∧ xs.length ≤ 10 ∧ 1 ≤ xs.length ∧ OwnB wr w.heap.size v xs ∧ Below w.heap.size w wr) (fun _ i _ => r - (intOf i).toNat)
  case atStart => exact ⟨0, vint n, by omega, rfl, HD0.out, HVB.out, HL0.out.1, HL0.out.2, HO1.out, HB1.out⟩
  case round =>
    clear HD0 HVB HL0 HO1 HB1
    obtain ⟨k, xs, hk, rfl, hd, hb, hl10, hl1, hown, hbel⟩ := hrel
    have HM : Hid (xs.length < 9 → dec 0 0 (more xs) = ((n : Int), ((more xs).length : Int), 0) ∧ (more xs).length = xs.length + 1 ∧ ∀ z ∈ more xs, 0 ≤ z ∧ z ≤ 255) := fun h9 => more_dec _ HV0.out.1 HV0.out.2 xs hl1 h9 hb hd
    obtain ⟨z, hz⟩ : ∃ z, xs[xs.length - 1]? = some z := ⟨_, List.getElem?_eq_getElem (by omega)⟩
    have hzb := hb z (List.mem_of_getElem? hz)
    have hME : Hid (more xs = xs.set (xs.length - 1) (z % 128 + 128) ++ [0]) := by
      refine (?_ : more xs = _)
      unfold more; rw [List.getD_eq_getElem?_getD, hz]; rfl
    obtain ⟨g, cap, rfl, hg1, hg2, hcap, hcell, hfro, hset⟩ := own_open hown hz
    have HD : Hid (dec 0 0 xs = ((n : Int), (xs.length : Int), 0)) := hd
    have HIB : Hid (IsB wr (some ⟨g, 0, none⟩) xs.length xs) := by
      obtain ⟨a, c, hv, h1, _, _⟩ := own_isB hown hb (by omega)
      cases hv; exact h1
    have hor := Lib.u8_or128_any z hzb.1 (by omega)
    have HS : Hid (OwnB (wr.setCell ⟨g, xs.length - 1, none⟩ (.int .u8 (z % 128 + 128))) w.heap.size (.slice (some ⟨g, 0, none⟩) xs.length cap) (xs.set (xs.length - 1) (z % 128 + 128))) := hset _
    have HBE : Hid (Below w.heap.size w wr) := hbel
    have hsz := hbel.size
    clear hd hb hz hown hbel hset
    obtain ⟨L, hL⟩ : ∃ L, xs.length = L := ⟨_, rfl⟩
    rw [hL] at hl10 hl1 hcap hcell hfro HM hME HD HIB HS ⊢
    have HL : Hid (xs.length = L) := hL
    clear hL
    by_cases hlt : k < r
    · by_cases h9 : 9 ≤ L
      · go_wp2_with fail
        refine (take_any _ _ _ xs _ HIB.out).mono ?_
        rintro e w' ⟨rfl, rfl⟩
        rw [HD.out]
        go_wp2_with fail
        go_ret
        exact ⟨rfl, HBE.out⟩
      · have hL1 : ((L : Int) - 1).toNat = L - 1 := by omega
        have hM1 : 0 ≤ z % 128 := by omega
        have hM2 : z % 128 + 128 ≤ 255 := by omega
        have HI : Hid (IsB ((wr.setCell ⟨g, L - 1, none⟩ (.int .u8 (z % 128 + 128))).alloc (.cells #[.int .u8 0] 5)) (some ⟨wr.heap.size, 0, none⟩) 1 [0]) := by
          have := isB_one (wr.setCell ⟨g, L - 1, none⟩ (.int .u8 (z % 128 + 128))) 0 (by omega) (by omega)
          refine (?_ : IsB _ _ _ _)
          simpa using this
        go_wp2_with (at_builtin; (refine wpB_append rfl (.tmp 30) (.tmp 31) rfl w.heap.size (.slice (some ⟨g, 0, none⟩) L cap) (xs.set (L - 1) (z % 128 + 128)) rfl (own_alloc HS.out _) (some ⟨wr.heap.size, 0, none⟩) 1 1 [0] rfl HI.out (by simp) (by have := HL.out; simp; omega) (by simp; omega) ?_); intro v2 w2 hown2 hg2')
        go_roundw
        case rel =>
          rw [← hME.out] at hown2
          have hm := HM.out (by omega)
          refine ⟨k + 1, more xs, by omega, by go_num, hm.1, hm.2.2, by omega, by omega, hown2, ?_⟩
          exact ((HBE.out.setCell (by exact hg1) _).alloc (by simp; omega) _).grown hg2' (by simp; omega) (by intro j hj; simp [Value.ownBlock] at hj; omega)
        case measure => simp [intOf]; omega
    · go_wp2_with fail
      refine (take_any _ _ _ xs _ HIB.out).mono ?_
      rintro e w' ⟨rfl, rfl⟩
      rw [HD.out]
      go_wp2_with fail
      go_ret
      exact ⟨rfl, HBE.out⟩

/-! ### THE ROW's STEP: WRITTEN OUT: LEAVE IT -/
set_option maxRecDepth 100000 in
theorem lifted (os : Os) (started : os.Started) (H : Type) (enc : TypeId × Value → H) :
    ReturnsInHanded {} Try.checked os 6 .any (Rows.varintLongSpec.pre6 enc Try.prog Try.f6 Rows.varintLongRow.domain false) (Rows.varintLongSpec.post enc Try.prog Try.f6 false true false false) := by
  refine returnsInHanded_of_change_sized (C := Try.checked) own started (by kernel_rfl) Try.func6
    (ChangeSpec.witness6 (enc := enc) (C := Try.checked) false ⟨#[], #[.int .u64 0, .int .u8 0], []⟩ 8 (by kernel_rfl) (by kernel_rfl) (by kernel_rfl) (by kernel_rfl)) ?_
  intro W base args ds gs before hval0 hW hcnd hsz0 _
  have hval : ∀ (j : Nat) t v, Try.f6.params[j]? = some t → args[j]? = some v → Value.okWide Try.prog W .any base t v := hval0
  have hsz : (DataW.weightsEach Try.prog (Try.f6.params.toList ++ Rows.varintLongSpec.plain.varTypes Try.prog) (ds ++ gs)).all (· ≤ reachBytes) = true := hsz0
  clear hsz0
  have hW' := hW
  obtain ⟨p, q, hA0, hV, rfl, hfz, hnd⟩ := hW
  have hA : DataW.TrodAll enc Try.prog W 0 (fun _ => true) true Try.f6.params.toList args.toList ds p := hA0
  rw [Try.params6] at hA hval hsz
  obtain ⟨v0, vs0, d0, ds0, p0, q0, hargs, rfl, rfl, h0, r0⟩ := trodAll_cons hA
  obtain ⟨v1, vs1, d1, ds1, p1, q1, rfl, rfl, rfl, h1, r1⟩ := trodAll_cons r0
  obtain ⟨rfl, rfl, rfl⟩ := trodAll_nil r1
  obtain rfl : args = #[v0, v1] := by cases args; simp_all
  obtain ⟨rfl, rfl⟩ := trodVars_none hV
  obtain ⟨a0, rfl, rfl, rfl, w0⟩ := open_int Try.underlying23 (hval 0 23 v0 rfl rfl) h0
  obtain ⟨a1, rfl, rfl, rfl, w1⟩ := open_int Try.underlying5 (hval 1 5 v1 rfl rfl) h1
  clear hA0 hval0
  simp only [List.append_nil] at hW'
  refine (walk a0 a1 w0 w1 W).mono fun e W' ⟨he, hg⟩ => ?_
  subst he
  exact ⟨_, rfl, _, _, _, [], [], [], hW', (trodAll_cons_mk (shut_bool Try.underlying4 _) trodAll_mk0), (trodAll_cons_mk (shut_int Try.underlying23 w0) (trodAll_cons_mk (shut_int Try.underlying5 w1) trodAll_mk0)), rfl, hg.frame _, fun h => by cases h⟩

theorem over : Rows.varintLongRow.holds Try.pinned (OpenSpec.ofChange Rows.varintLongSpec) :=
  OpenClaim.holds_of_wide 6 Try.f6 rfl rfl rfl rfl rfl rfl rfl ⟨rfl, rfl, rfl, rfl, rfl⟩ rfl rfl rfl rfl rfl (by kernel_rfl) Try.func6 (by kernel_rfl)
    (of_decide_eq_true (by kernel_rfl)) (by unfold Func.isWrapper; first | (rw [if_pos (by decide +kernel)]; kernel_rfl) | (rw [if_neg (by decide +kernel)]; exact ⟨rfl, rfl⟩))
    (fun os started H enc _ => lifted os started H enc)

/-- ████ THE STATEMENT ████ -/
theorem proved : Rows.VarintLongSaid :=
  over
end Go.Proofs.Ytndknaiicmkeiaa.varintLong
namespace Go.Proofs.Ytndknaiicmkeiaa
theorem varintLong_holds : Rows.VarintLongSaid := varintLong.proved
end Go.Proofs.Ytndknaiicmkeiaa
