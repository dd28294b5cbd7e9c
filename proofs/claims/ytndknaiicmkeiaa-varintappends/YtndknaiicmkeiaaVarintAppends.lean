/-
  The Go function VarintAppends answers true for all bytes and every number; its arguments read afterwards as before: any number is appended as the shortest varint, and has that size. No condition.
-/
import Derived.Test.YtndknaiicmkeiaaRows
import Derived.WalkKit
import Derived.ProofKit
import Derived.OpenShut
import Derived.ShutString
import Derived.SizedLaws
import Derived.Deep.RegionWith
import Derived.Deep.RegionLaw
import Derived.Deep.DeepCutAuto
import Derived.Test.YtndknaiicmkeiaaBase
import Derived.Test.YtndknaiicmkeiaaMem
import Derived.Test.YtndknaiicmkeiaaGrown
import Derived.Test.YtndknaiicmkeiaaStr
import Derived.Test.YtndknaiicmkeiaaApp
import Derived.Test.YtndknaiicmkeiaaCat
import Derived.Test.YtndknaiicmkeiaaVarR
import Derived.ChangeOld
import Derived.Below
namespace Go.Proofs.Ytndknaiicmkeiaa.varintAppends
open Go.ChangeShapes Go.WideShapes Go.ChangeAt Go.RowKit
open Go.ChangeMaps (open_string shut_string)
set_option linter.unusedVariables false

theorem own : ownKnob Try.prog.godebug = none := by kernel_rfl
theorem laidOut : laidOutB Try.prog = true := by kernel_rfl

theorem ownE_room (w : World) (base g : Nat) : OwnE w base (.slice (some ⟨g, 0, none⟩) 0 0) [] := .inr ⟨rfl, g, rfl⟩
set_option maxHeartbeats 1000000 in
theorem walk (a0 : Option Addr) (len0 cap0 : Nat) (z0 : List Int) (a1 : Int) (w : World) (w0 : ArgB w a0 len0 cap0 z0) (w1 : (Lit.int .u64 a1).wf = true) :
    Calls Try.prog 3 #[.slice a0 len0 cap0, .int .u64 a1] w fun e w' => e = .returned (.bool true) ∧ Below w.heap.size w w' := by
  have hlm : len0 ≤ 140737488351232 := by have := w0.2.1; have := w0.2.2.1; omega
  have HNO : Hid (a0 = none → len0 = 0 ∧ cap0 = 0) := w0.none_of
  have hB := w0.isB
  have HB : Hid (IsB w a0 len0 z0) := hB
  have HLz : Hid (z0.length = len0) := hB.1
  obtain ⟨hn0, hn1⟩ := bd_u64 w1
  obtain ⟨n, rfl⟩ := Int.eq_ofNat_of_zero_le hn0
  have hn : n ≤ 18446744073709551615 := by omega
  have HN : Hid (n ≤ 18446744073709551615) := hn
  have hle := vint_ten hn
  have HZB : Hid (∀ z ∈ z0 ++ vint n, 0 ≤ z ∧ z ≤ 255) := by
    intro z hz; rcases List.mem_append.1 hz with h | h; exact isB_bytes HB.out z h; exact vint_bytes n z h
  obtain ⟨L, hL⟩ : ∃ L, (vint n).length = L := ⟨_, rfl⟩
  have HAP : Hid (∀ W, IsB W a0 len0 z0 → Calls Try.prog 9 #[.slice a0 len0 cap0, .int .u64 n] W fun e w' =>
      ∃ g, e = .returned (.slice (some ⟨g, 0, none⟩) (len0 + L) (len0 + L)) ∧ IsB w' (some ⟨g, 0, none⟩) (len0 + L) (z0 ++ vint n) ∧ Below W.heap.size W w') := by
    intro W h
    refine (append_any a0 len0 cap0 z0 n W h HN.out hlm).mono ?_
    rintro e w' ⟨rfl, rfl⟩
    rw [hL]
    refine ⟨_, rfl, ?_, blk_below W 5 _⟩
    have := isB_blk W 5 (z0 ++ vint n) HZB.out (by rw [List.length_append, hL, HLz.out]; omega)
    rw [List.length_append, hL, HLz.out] at this
    exact this
  have HVR : Hid (∀ (v : Value) (base : Nat) (W : World), OwnE W base v z0 → base ≤ W.heap.size → Calls Try.prog 10 #[v, .int .u64 n] W fun e w' =>
      ∃ a c, e = .returned (.slice a (len0 + L) c) ∧ (convert 22 9 (.slice a (len0 + L) c)).run Try.prog w' = .ok (.string (strOfNums (z0 ++ vint n))) w' ∧ Below base W w') := by
    intro v base W h hb
    refine (varintR_any v base z0 n W h HN.out (by have := HLz.out; omega) hb).mono ?_
    rintro e w' ⟨v', rfl, h1, h2⟩
    obtain ⟨a, c, rfl, h3, _, _⟩ := own_isB h1 HZB.out (by rw [List.length_append, hL, HLz.out]; omega)
    rw [List.length_append, hL, HLz.out] at h3 ⊢
    exact ⟨a, c, rfl, run_str _ _ _ _ _ h3, h2⟩
  have HS1 : Hid (∀ W, Calls Try.prog 11 #[.int .u64 n] W fun e w' => e = .returned (.int .i64 (L : Nat)) ∧ w' = W) := by
    intro W; have := size_any n W HN.out; rw [hL] at this; exact this
  have HS2 : Hid (∀ W, Calls Try.prog 12 #[.int .u64 n] W fun e w' => e = .returned (.int .i64 (L : Nat)) ∧ Below W.heap.size W w') := by
    intro W; have := sizeR_any n W HN.out; rw [hL] at this; exact this
  have HSX : Hid (∀ g W V, IsB W (some ⟨g, 0, none⟩) (len0 + L) (z0 ++ vint n) → Below W.heap.size W V → (convert 22 9 (.slice (some ⟨g, 0, none⟩) (len0 + L) (len0 + L))).run Try.prog V = .ok (.string (strOfNums (z0 ++ vint n))) V) :=
    fun g W V h hb => run_str _ _ _ _ _ (isB_old h hb)
  rw [hL] at hle
  have HBd : Hid (Below w.heap.size w w.drew) := (Below.refl _ _).drew
  have HBa : Hid (Below w.heap.size w (w.alloc (.cells #[] 5)).drew) := ((Below.refl _ _).alloc (Nat.le_refl _) _).drew
  clear w0 w1 hB hn0 hn1 hn hL HN HZB
  generalize z0 ++ vint n = S at *
  generalize strOfNums S = T at *
  go_enter Try.func3, Try.ntmps3
  go_wp2_with fail
  go_region_law (first
    | (refine stepE_append rfl (.tmp 9) (.tmp 10) rfl U.heap.size (.slice (some ⟨_, 0, none⟩) 0 0) [] rfl (ownE_room _ _ _) a0 len0 cap0 z0 rfl (by first | exact hIb | exact isB_old hIb ((Below.refl _ _).alloc (Nat.le_refl _) _)) HNO.out (by simp; omega) (by first | exact Nat.le_refl _ | simp) ?_; intro v2 V hown2 hb2; have hbUV : Below U.heap.size U V := (by first | exact hb2 | exact ((Below.refl _ _).alloc (Nat.le_refl _) _).trans hb2); have hsx2 := HSX.out g U V hI hbUV; have hz2 := hbUV.size; simp only [List.nil_append] at hown2)
    | (go_simp; go_at_call 9; refine (HAP.out _ ?_).mono ?_; (first | exact isB_old HB.out HBd.out | exact isB_old HB.out HBa.out); rintro e U ⟨g, rfl, hI, hb⟩; have hbwU : Below w.heap.size w U := (by first | exact HBd.out.trans hb | exact HBa.out.trans (hb.mono (by simp))); have hIb := isB_old HB.out hbwU; have hsx0 := HSX.out g U U hI (Below.refl _ _); have hsx1 := fun o => HSX.out g U (U.alloc o) hI ((Below.refl _ _).alloc (Nat.le_refl _) o); have hzU := hbwU.size)
    | (go_simp; go_at_call 10; refine (HVR.out v2 U.heap.size _ hown2 hz2).mono ?_; rintro e X ⟨ax, cx, rfl, hsv, hb3⟩; have hsx3 := HSX.out g U X hI (hbUV.trans hb3); have hbwX : Below w.heap.size w X := hbwU.trans ((hbUV.trans hb3).mono hzU))
    | (go_simp; go_at_call 11; refine (HS1.out _).mono ?_; rintro e w' ⟨rfl, hww⟩; rw [hww]; clear hww)
    | (go_simp; go_at_call 12; refine (HS2.out _).mono ?_; rintro e Y ⟨rfl, hb4⟩; have hbwY : Below w.heap.size w Y := hbwX.trans (hb4.mono hbwX.size)))
  all_goals (go_wp2_with fail; go_ret; exact ⟨rfl, hbwY⟩)

/-! ### THE ROW's STEP: WRITTEN OUT: LEAVE IT -/
set_option maxRecDepth 100000 in
theorem lifted (os : Os) (started : os.Started) (H : Type) (enc : TypeId × Value → H) :
    ReturnsInHanded {} Try.checked os 3 .any (Rows.varintAppendsSpec.pre6 enc Try.prog Try.f3 Rows.varintAppendsRow.domain false) (Rows.varintAppendsSpec.post enc Try.prog Try.f3 false true false false) := by
  refine returnsInHanded_of_change_sized (C := Try.checked) own started (by kernel_rfl) Try.func3
    (ChangeSpec.witness6 (enc := enc) (C := Try.checked) false ⟨#[], #[.slice none 0 0, .int .u64 0], []⟩ 8 (by kernel_rfl) (by kernel_rfl) (by kernel_rfl) (by kernel_rfl)) ?_
  intro W base args ds gs before hval0 hW hcnd hsz0 _
  have hval : ∀ (j : Nat) t v, Try.f3.params[j]? = some t → args[j]? = some v → Value.okWide Try.prog W .any base t v := hval0
  have hsz : (DataW.weightsEach Try.prog (Try.f3.params.toList ++ Rows.varintAppendsSpec.plain.varTypes Try.prog) (ds ++ gs)).all (· ≤ reachBytes) = true := hsz0
  clear hsz0
  have hW' := hW
  obtain ⟨p, q, hA0, hV, rfl, hfz, hnd⟩ := hW
  have hA : DataW.TrodAll enc Try.prog W 0 (fun _ => true) true Try.f3.params.toList args.toList ds p := hA0
  rw [Try.params3] at hA hval hsz
  obtain ⟨v0, vs0, d0, ds0, p0, q0, hargs, rfl, rfl, h0, r0⟩ := trodAll_cons hA
  obtain ⟨v1, vs1, d1, ds1, p1, q1, rfl, rfl, rfl, h1, r1⟩ := trodAll_cons r0
  obtain ⟨rfl, rfl, rfl⟩ := trodAll_nil r1
  obtain rfl : args = #[v0, v1] := by cases args; simp_all
  obtain ⟨rfl, rfl⟩ := trodVars_none hV
  obtain ⟨a0, len0, cap0, rfl⟩ := okWide_slice Try.underlying22 (hval 0 22 v0 rfl rfl)
  have k0 := h0
  have lt0 : ∀ x ∈ p0, x.block < W.heap.size := by obtain ⟨m, hm⟩ := k0; exact DataW.trod_lt m _ _ _ hm
  obtain ⟨z0, w0⟩ : ∃ zs, ArgB W a0 len0 cap0 zs := by
    obtain ⟨fuel, hf⟩ := h0
    rcases open_ints Try.underlying22 Try.underlying5 (by kernel_rfl) hf with ⟨hcs, _⟩ | ⟨x, l, c, zs, hcs, _, hl, hm, hz, hx, hcell, hwz⟩
    · simp [Value.cells] at hcs
      obtain ⟨rfl, rfl, rfl⟩ := hcs
      exact ⟨[], argB_nil _⟩
    · simp [Value.cells] at hcs
      obtain ⟨rfl, rfl, rfl⟩ := hcs
      simp only [Prod.mk.injEq] at hx
      obtain ⟨rfl, _⟩ := hx
      simp only [if_true] at hz
      have hreach : cap0 ≤ 140737488351232 := by
        have := sized_slice hsz (j := 0) (t := 22) (e := 5) rfl rfl Try.underlying22
        rw [show Try.prog.bytesOf 5 = 1 by kernel_rfl] at this
        simp only [lits, List.length_map, List.length_take, List.length_drop, reachBytes] at this
        omega
      exact ⟨zs.take len0, argB_of hl hreach hz hcell hwz⟩
  obtain ⟨a1, rfl, rfl, rfl, w1⟩ := open_int Try.underlying23 (hval 1 23 v1 rfl rfl) h1
  clear hA0 hval0
  refine (walk a0 len0 cap0 z0 a1 W w0 w1).mono fun e W' ⟨he, bel⟩ => ?_
  subst he
  exact ⟨_, rfl, _, _, _, [], _, [], hW', trodAll_mk1 (shut_bool Try.underlying4 _), (trodAll_cons_mk (Below.trod laidOut (by kernel_rfl) (of_decide_eq_true (by kernel_rfl)) k0 bel lt0) (trodAll_cons_mk (shut_int Try.underlying23 w1) trodAll_mk0)), rfl, bel.frame _, fun h => by cases h⟩

theorem over : Rows.varintAppendsRow.holds Try.pinned (OpenSpec.ofChange Rows.varintAppendsSpec) :=
  OpenClaim.holds_of_wide 3 Try.f3 rfl rfl rfl rfl rfl rfl rfl ⟨rfl, rfl, rfl, rfl, rfl⟩ rfl rfl rfl rfl rfl (by kernel_rfl) Try.func3 (by kernel_rfl)
    (of_decide_eq_true (by kernel_rfl)) (by unfold Func.isWrapper; first | (rw [if_pos (by decide +kernel)]; kernel_rfl) | (rw [if_neg (by decide +kernel)]; exact ⟨rfl, rfl⟩))
    (fun os started H enc _ => lifted os started H enc)

/-- ████ THE STATEMENT ████ -/
theorem proved : Rows.VarintAppendsSaid := over
end Go.Proofs.Ytndknaiicmkeiaa.varintAppends
namespace Go.Proofs.Ytndknaiicmkeiaa
theorem varintAppends_holds : Rows.VarintAppendsSaid := varintAppends.proved
end Go.Proofs.Ytndknaiicmkeiaa
