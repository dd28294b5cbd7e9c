/-
  The Go function VarintFixed answers true for all bytes and numbers; its arguments read afterwards as before: fixed numbers have their bytes, the lowest first, and come back. No condition.
-/
import Derived.Test.YtndknaiicmkeiaaRows
import Derived.WalkKit
import Derived.ProofKit
import Derived.OpenShut
import Derived.ShutString
import Derived.SizedLaws
import Derived.Deep.RegionWith
import Derived.Deep.RegionLaw
import Derived.Deep.DeepCutAuto
import Derived.Test.YtndknaiicmkeiaaBase
import Derived.Test.YtndknaiicmkeiaaMem
import Derived.Test.YtndknaiicmkeiaaGrown
import Derived.Test.YtndknaiicmkeiaaStr
import Derived.Test.YtndknaiicmkeiaaFix
import Derived.Test.YtndknaiicmkeiaaAFix
import Derived.Test.YtndknaiicmkeiaaLowR
import Derived.ChangeOld
import Derived.Below
namespace Go.Proofs.Ytndknaiicmkeiaa.varintFixed
open Go.ChangeShapes Go.WideShapes Go.ChangeAt Go.RowKit
open Go.ChangeMaps (open_string shut_string)
set_option linter.unusedVariables false

theorem own : ownKnob Try.prog.godebug = none := by kernel_rfl
theorem laidOut : laidOutB Try.prog = true := by kernel_rfl

theorem isB_drop {w : World} {b : Nat} {len m : Nat} {zs ys : List Int} (hB : IsB w (some ⟨b, 0, none⟩) (len + m) (zs ++ ys)) (hl : zs.length = len) (hm : ys.length = m) (h1 : 1 ≤ m) : IsB w (some ⟨b, len, none⟩) m ys := by
  obtain ⟨h0, h2, h3⟩ := hB
  refine ⟨hm, by omega, ?_⟩
  rcases h3 with h3 | ⟨b', off, hab, hh⟩
  · rw [h3] at h0; simp at h0; omega
  · cases hab
    refine .inr ⟨_, _, rfl, ?_, ?_⟩
    · intro j z hj
      have := hh.1 (len + j) z (by rw [List.getElem?_append_right (by omega), show len + j - zs.length = j by omega]; exact hj)
      rw [Nat.zero_add] at this; exact this
    · intro z hz
      exact hh.2 z (List.mem_append_right _ hz)
theorem low4 (n : Int) (h0 : 0 ≤ n) (h1 : n ≤ 4294967295) : low ((lob n 4).take 4) = n := by
  rw [List.take_of_length_le (by rw [lob_length]; omega), low_lob]; omega
theorem low8 (n : Int) (h0 : 0 ≤ n) (h1 : n ≤ 18446744073709551615) : low ((lob n 8).take 8) = n := by
  rw [List.take_of_length_le (by rw [lob_length]; omega), low_lob]; omega
set_option maxHeartbeats 1000000 in
theorem walk (a0 : Option Addr) (len0 cap0 : Nat) (z0 : List Int) (a1 : Int) (a2 : Int) (w : World) (w0 : ArgB w a0 len0 cap0 z0) (w1 : (Lit.int .u32 a1).wf = true) (w2 : (Lit.int .u64 a2).wf = true) :
    Calls Try.prog 8 #[.slice a0 len0 cap0, .int .u32 a1, .int .u64 a2] w fun e w' => e = .returned (.bool true) ∧ Below w.heap.size w w' := by
  have hlm : len0 ≤ 140737488351232 := by have := w0.2.1; have := w0.2.2.1; omega
  have hlc : len0 ≤ cap0 := w0.2.1
  have hB := w0.isB
  have HB : Hid (IsB w a0 len0 z0) := hB
  have HLz : Hid (z0.length = len0) := hB.1
  obtain ⟨hn0, hn1⟩ := bd_u32 w1
  obtain ⟨hu0, hu1⟩ := bd_u64 w2
  clear w0 w1 w2 hB
  go_enter Try.func8, Try.ntmps8
  go_wp2_with fail
  refine (append32_any _ _ _ z0 a1 _ HB.out hn0 hn1 hlm).mono ?_
  rintro e W1 ⟨rfl, hW1⟩
  have HB1 : Hid (Below w.heap.size w W1) := by rw [hW1]; exact blk_below w 5 _
  have HZ1 : Hid (W1.heap.size = w.heap.size + 1) := by rw [hW1]; exact blk_size w 5 _
  have HI1 : Hid (IsB W1 (some ⟨w.heap.size, 0, none⟩) (len0 + 4) (z0 ++ lob a1 4)) := by
    have := isB_blk w 5 (z0 ++ lob a1 4) (by intro z hz; rcases List.mem_append.1 hz with h | h; exact isB_bytes HB.out z h; exact lob_bytes _ _ z h) (by rw [List.length_append, lob_length, HLz.out]; omega)
    rw [List.length_append, lob_length, HLz.out] at this
    rw [hW1]; exact this
  clear hW1
  go_wp2_with fail
  refine (append64_any _ _ _ z0 a2 _ (isB_old HB.out HB1.out) hu0 hu1 hlm).mono ?_
  rintro e W2 ⟨rfl, hW2⟩
  have HB2 : Hid (Below W1.heap.size W1 W2) := by rw [hW2]; exact blk_below W1 5 _
  have HZ2 : Hid (W2.heap.size = W1.heap.size + 1) := by rw [hW2]; exact blk_size W1 5 _
  have HI2 : Hid (IsB W2 (some ⟨W1.heap.size, 0, none⟩) (len0 + 8) (z0 ++ lob a2 8)) := by
    have := isB_blk W1 5 (z0 ++ lob a2 8) (by intro z hz; rcases List.mem_append.1 hz with h | h; exact isB_bytes HB.out z h; exact lob_bytes _ _ z h) (by rw [List.length_append, lob_length, HLz.out]; omega)
    rw [List.length_append, lob_length, HLz.out] at this
    rw [hW2]; exact this
  clear hW2
  have HBW : Hid (IsB W2 a0 len0 z0) := isB_old (isB_old HB.out HB1.out) HB2.out
  have HI12 : Hid (IsB W2 (some ⟨w.heap.size, 0, none⟩) (len0 + 4) (z0 ++ lob a1 4)) := isB_old HI1.out HB2.out
  have HB02 : Hid (Below w.heap.size w W2) := HB1.out.trans (HB2.out.mono (by have := HZ1.out; omega))
  clear HI1 HB2 HB1
  go_wp2_with fail
  have HS0 : Hid (∀ W, Below W2.heap.size W2 W → (convert 22 9 (.slice a0 len0 cap0)).run Try.prog W = .ok (.string (strOfNums z0)) W) := fun W hW => run_str _ _ _ _ _ (isB_old HBW.out hW)
  go_cut [9] (fun s9 wx => s9 = .string (strOfNums (z0 ++ lob a1 4)) ∧ Below W2.heap.size W2 wx)
  case first =>
    have hs0 := HS0.out
    have hwr : IntKind.u64.wrap a1 = a1 := wraps_u64 a1 hn0 (by omega)
    have hsz0 : (strOfNums z0).size = len0 := by rw [strOfNums_size]; exact HLz.out
    have hsz4 : (strOfNums (lob a1 4)).size = 4 := by rw [strOfNums_size, lob_length]
    have hcat := str_append z0 (lob a1 4)
    have hbr : Below W2.heap.size W2 W2 := Below.refl _ _
    have hbd : Below W2.heap.size W2 W2.drew := hbr.drew
    go_region_with (go_at_call 21; refine (lowR_any _ 4 _ (by omega) (by omega) (by omega)).mono ?_; rintro e w' ⟨v', rfl, hown, hbel⟩; obtain ⟨a, c, rfl, hI, _, _⟩ := own_isB hown (lob_bytes _ _) (by rw [lob_length]; omega); have hs1 := run_str w' a _ c _ hI; have hbw : Below W2.heap.size W2 w' := hbd.trans hbel; have hs2 := hs0 w' hbw)
    all_goals (go_wp2_with fail; go_meet; exact ⟨rfl, hbw⟩)
  case rest =>
  obtain ⟨rfl, hb3⟩ := hcut
  have HB3 : Hid (Below W2.heap.size W2 wc) := hb3
  have hz3 := hb3.size
  clear hb3
  go_wp2_with fail
  go_cut [10] (fun s10 wx => s10 = .string (strOfNums (z0 ++ lob a2 8)) ∧ Below W2.heap.size W2 wx)
  case first =>
    have hs0 := HS0.out
    have hsz0 : (strOfNums z0).size = len0 := by rw [strOfNums_size]; exact HLz.out
    have hsz8 : (strOfNums (lob a2 8)).size = 8 := by rw [strOfNums_size, lob_length]
    have hcat := str_append z0 (lob a2 8)
    have hbr : Below W2.heap.size W2 wc := HB3.out
    have hbd : Below W2.heap.size W2 wc.drew := hbr.drew
    go_region_with (go_at_call 21; refine (lowR_any _ 8 _ (by omega) (by omega) (by omega)).mono ?_; rintro e w' ⟨v', rfl, hown, hbel⟩; obtain ⟨a, c, rfl, hI, _, _⟩ := own_isB hown (lob_bytes _ _) (by rw [lob_length]; omega); have hs1 := run_str w' a _ c _ hI; have hbw : Below W2.heap.size W2 w' := hbd.trans (hbel.mono hz3); have hs2 := hs0 w' hbw)
    all_goals (go_wp2_with fail; go_meet; exact ⟨rfl, hbw⟩)
  case rest =>
  obtain ⟨rfl, hb4⟩ := hcut
  have HBE : Hid (Below w.heap.size w wc) := HB02.out.trans (hb4.mono (by have := HB02.out.size; omega))
  have hx := run_str wc _ (len0 + 4) (len0 + 4) _ (isB_old HI12.out hb4)
  have hy := run_str wc _ (len0 + 8) (len0 + 8) _ (isB_old HI2.out hb4)
  have HX : Hid (IsB wc (some ⟨w.heap.size, len0, none⟩) 4 (lob a1 4)) := isB_drop (isB_old HI12.out hb4) HLz.out (lob_length _ _) (by omega)
  have HY : Hid (IsB wc (some ⟨W1.heap.size, len0, none⟩) 8 (lob a2 8)) := isB_drop (isB_old HI2.out hb4) HLz.out (lob_length _ _) (by omega)
  have HL4 : Hid (low ((lob a1 4).take 4) = a1) := low4 a1 hn0 hn1
  have HL8 : Hid (low ((lob a2 8).take 8) = a2) := low8 a2 hu0 hu1
  clear HS0 HB3 hb4 HI12 HI2 HB02 HBW HB HZ1 HZ2
  generalize strOfNums (z0 ++ lob a1 4) = p at *
  generalize strOfNums (z0 ++ lob a2 8) = q at *
  go_wp2_with fail
  refine (take32_any _ _ _ _ _ HX.out (by omega)).mono ?_
  rintro e w' ⟨rfl, rfl⟩
  rw [HL4.out]
  clear hx hy
  go_wp2_with fail
  refine (take64_any _ _ _ _ _ HY.out (by omega)).mono ?_
  rintro e w' ⟨rfl, rfl⟩
  rw [HL8.out]
  go_wp2_with fail
  go_ret
  exact ⟨rfl, HBE.out⟩

/-! ### THE ROW's STEP: WRITTEN OUT: LEAVE IT -/
set_option maxRecDepth 100000 in
theorem lifted (os : Os) (started : os.Started) (H : Type) (enc : TypeId × Value → H) :
    ReturnsInHanded {} Try.checked os 8 .any (Rows.varintFixedSpec.pre6 enc Try.prog Try.f8 Rows.varintFixedRow.domain false) (Rows.varintFixedSpec.post enc Try.prog Try.f8 false true false false) := by
  refine returnsInHanded_of_change_sized (C := Try.checked) own started (by kernel_rfl) Try.func8
    (ChangeSpec.witness6 (enc := enc) (C := Try.checked) false ⟨#[], #[.slice none 0 0, .int .u32 0, .int .u64 0], []⟩ 8 (by kernel_rfl) (by kernel_rfl) (by kernel_rfl) (by kernel_rfl)) ?_
  intro W base args ds gs before hval0 hW hcnd hsz0 _
  have hval : ∀ (j : Nat) t v, Try.f8.params[j]? = some t → args[j]? = some v → Value.okWide Try.prog W .any base t v := hval0
  have hsz : (DataW.weightsEach Try.prog (Try.f8.params.toList ++ Rows.varintFixedSpec.plain.varTypes Try.prog) (ds ++ gs)).all (· ≤ reachBytes) = true := hsz0
  clear hsz0
  have hW' := hW
  obtain ⟨p, q, hA0, hV, rfl, hfz, hnd⟩ := hW
  have hA : DataW.TrodAll enc Try.prog W 0 (fun _ => true) true Try.f8.params.toList args.toList ds p := hA0
  rw [Try.params8] at hA hval hsz
  obtain ⟨v0, vs0, d0, ds0, p0, q0, hargs, rfl, rfl, h0, r0⟩ := trodAll_cons hA
  obtain ⟨v1, vs1, d1, ds1, p1, q1, rfl, rfl, rfl, h1, r1⟩ := trodAll_cons r0
  obtain ⟨v2, vs2, d2, ds2, p2, q2, rfl, rfl, rfl, h2, r2⟩ := trodAll_cons r1
  obtain ⟨rfl, rfl, rfl⟩ := trodAll_nil r2
  obtain rfl : args = #[v0, v1, v2] := by cases args; simp_all
  obtain ⟨rfl, rfl⟩ := trodVars_none hV
  obtain ⟨a0, len0, cap0, rfl⟩ := okWide_slice Try.underlying22 (hval 0 22 v0 rfl rfl)
  have k0 := h0
  have lt0 : ∀ x ∈ p0, x.block < W.heap.size := by obtain ⟨m, hm⟩ := k0; exact DataW.trod_lt m _ _ _ hm
  obtain ⟨z0, w0⟩ : ∃ zs, ArgB W a0 len0 cap0 zs := by
    obtain ⟨fuel, hf⟩ := h0
    rcases open_ints Try.underlying22 Try.underlying5 (by kernel_rfl) hf with ⟨hcs, _⟩ | ⟨x, l, c, zs, hcs, _, hl, hm, hz, hx, hcell, hwz⟩
    · simp [Value.cells] at hcs
      obtain ⟨rfl, rfl, rfl⟩ := hcs
      exact ⟨[], argB_nil _⟩
    · simp [Value.cells] at hcs
      obtain ⟨rfl, rfl, rfl⟩ := hcs
      simp only [Prod.mk.injEq] at hx
      obtain ⟨rfl, _⟩ := hx
      simp only [if_true] at hz
      have hreach : cap0 ≤ 140737488351232 := by
        have := sized_slice hsz (j := 0) (t := 22) (e := 5) rfl rfl Try.underlying22
        rw [show Try.prog.bytesOf 5 = 1 by kernel_rfl] at this
        simp only [lits, List.length_map, List.length_take, List.length_drop, reachBytes] at this
        omega
      exact ⟨zs.take len0, argB_of hl hreach hz hcell hwz⟩
  obtain ⟨a1, rfl, rfl, rfl, w1⟩ := open_int Try.underlying36 (hval 1 36 v1 rfl rfl) h1
  obtain ⟨a2, rfl, rfl, rfl, w2⟩ := open_int Try.underlying23 (hval 2 23 v2 rfl rfl) h2
  clear hA0 hval0
  refine (walk a0 len0 cap0 z0 a1 a2 W w0 w1 w2).mono fun e W' ⟨he, bel⟩ => ?_
  subst he
  exact ⟨_, rfl, _, _, _, [], _, [], hW', trodAll_mk1 (shut_bool Try.underlying4 _), (trodAll_cons_mk (Below.trod laidOut (by kernel_rfl) (of_decide_eq_true (by kernel_rfl)) k0 bel lt0) (trodAll_cons_mk (shut_int Try.underlying36 w1) (trodAll_cons_mk (shut_int Try.underlying23 w2) trodAll_mk0))), rfl, bel.frame _, fun h => by cases h⟩

theorem over : Rows.varintFixedRow.holds Try.pinned (OpenSpec.ofChange Rows.varintFixedSpec) :=
  OpenClaim.holds_of_wide 8 Try.f8 rfl rfl rfl rfl rfl rfl rfl ⟨rfl, rfl, rfl, rfl, rfl⟩ rfl rfl rfl rfl rfl (by kernel_rfl) Try.func8 (by kernel_rfl)
    (of_decide_eq_true (by kernel_rfl)) (by unfold Func.isWrapper; first | (rw [if_pos (by decide +kernel)]; kernel_rfl) | (rw [if_neg (by decide +kernel)]; exact ⟨rfl, rfl⟩))
    (fun os started H enc _ => lifted os started H enc)

/-- ████ THE STATEMENT ████ -/
theorem proved : Rows.VarintFixedSaid := over
end Go.Proofs.Ytndknaiicmkeiaa.varintFixed
namespace Go.Proofs.Ytndknaiicmkeiaa
theorem varintFixed_holds : Rows.VarintFixedSaid := varintFixed.proved
end Go.Proofs.Ytndknaiicmkeiaa
