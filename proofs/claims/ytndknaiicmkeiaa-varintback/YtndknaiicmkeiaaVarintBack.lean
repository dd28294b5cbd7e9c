/-
  The Go function VarintBack answers true for every number, all bytes behind it and every cut; its arguments read afterwards as before: what was appended is taken as it was, whatever stands behind it; cut off, it lacks something. No condition.
-/
import Derived.Test.YtndknaiicmkeiaaRows
import Derived.WalkKit
import Derived.ProofKit
import Derived.OpenShut
import Derived.ShutString
import Derived.SizedLaws
import Derived.Deep.RegionWith
import Derived.Deep.RegionLaw
import Derived.Deep.DeepCutAuto
import Derived.Test.YtndknaiicmkeiaaBase
import Derived.Test.YtndknaiicmkeiaaMem
import Derived.Test.YtndknaiicmkeiaaTake
import Derived.Test.YtndknaiicmkeiaaFix
import Derived.Test.YtndknaiicmkeiaaApp
import Derived.Test.YtndknaiicmkeiaaCat
import Derived.ChangeOld
import Derived.Below
namespace Go.Proofs.Ytndknaiicmkeiaa.varintBack
open Go.ChangeShapes Go.WideShapes Go.ChangeAt Go.RowKit
open Go.ChangeMaps (open_string shut_string)
set_option linter.unusedVariables false

theorem own : ownKnob Try.prog.godebug = none := by kernel_rfl
theorem laidOut : laidOutB Try.prog = true := by kernel_rfl

set_option maxHeartbeats 1000000 in
theorem walk (a0 : Int) (a1 : Option Addr) (len1 cap1 : Nat) (z1 : List Int) (a2 : Int) (w : World) (w0 : (Lit.int .u64 a0).wf = true) (w1 : ArgB w a1 len1 cap1 z1) (w2 : (Lit.int .u8 a2).wf = true) :
    Calls Try.prog 5 #[.int .u64 a0, .slice a1 len1 cap1, .int .u8 a2] w fun e w' => e = .returned (.bool true) ∧ Below w.heap.size w w' := by
  obtain ⟨hn0, hn1⟩ := bd_u64 w0
  obtain ⟨hc0, hc1⟩ := bd_u8 w2
  obtain ⟨n, rfl⟩ := Int.eq_ofNat_of_zero_le hn0
  have hn : n ≤ 18446744073709551615 := by omega
  have hle := vint_ten hn
  have hpos := vint_pos n
  have HB : Hid (ArgB w a1 len1 cap1 z1) := w1
  have hlm : len1 ≤ 140737488351232 := by have := w1.2.1; have := w1.2.2.1; omega
  have HAP : Hid (∀ w : World, Calls Try.prog 9 #[.slice none 0 0, .int .u64 n] w fun e w' =>
      e = .returned (.slice (some ⟨w.heap.size, 0, none⟩) (vint n).length (vint n).length) ∧ w' = blk w 5 (vint n)) := by
    intro w
    have := append_any none 0 0 [] n w ⟨rfl, by simp, .inl rfl⟩ hn (by omega)
    simpa using this
  have HD : Hid (dec 0 0 (vint n ++ z1) = ((n : Int), ((vint n).length : Int), 0)) := by
    have := dec_vint n 0 0 z1 (by simp) (by omega) (by simp; omega)
    refine (?_ : dec 0 0 (vint n ++ z1) = _)
    rw [show (0 : Int) = ((0 : Nat) : Int) from rfl, this]
    simp
  have HC : Hid (∀ c, c < (vint n).length → dec 0 0 ((vint n).take c) = (0, 0, 5)) := fun c hc => dec_cut n 0 0 c (by omega) hc
  have HVB : Hid (∀ z ∈ vint n, 0 ≤ z ∧ z ≤ 255) := vint_bytes n
  clear w0 w1 w2 hn hn1
  generalize vint n = l at *
  obtain ⟨L, hL⟩ : ∃ L, l.length = L := ⟨_, rfl⟩
  rw [hL] at hle hpos HAP HD HC
  have HL : Hid (l.length = L) := hL
  clear hL
  go_enter Try.func5, Try.ntmps5
  go_wp2_with fail
  refine (HAP.out _).mono ?_
  rintro e w1 ⟨rfl, hw1⟩
  have HI : Hid (IsB w1 (some ⟨w.heap.size, 0, none⟩) L l) := by rw [hw1, ← HL.out]; exact isB_blk w 5 l HVB.out (by have := HL.out; omega)
  have hz1 : w1.heap.size = w.heap.size + 1 := by rw [hw1]; exact blk_size w 5 l
  have hb1 : Below w.heap.size w w1 := by rw [hw1]; exact blk_below w 5 l
  have HZ : Hid (w1.heap.size = w.heap.size + 1) := hz1
  have HB1 : Hid (Below w.heap.size w w1) := hb1
  have hle1 : w.heap.size + 1 ≤ w1.heap.size := by omega
  have HO : Hid (OwnB (w1.alloc (.cells #[] 5)) w1.heap.size (.slice (some ⟨w1.heap.size, 0, none⟩) 0 0) []) := own_blk w1 [] (by simp)
  have HI1 : Hid (IsB (w1.alloc (.cells #[] 5)) (some ⟨w.heap.size, 0, none⟩) L l) := isB_old HI.out ((Below.refl _ _).alloc (Nat.le_refl _) _)
  clear hw1 hz1 hb1 HAP
  have hne : ((L : Int) == 0) = false := by simp; omega
  go_wp2_with (first
    | (at_builtin; refine wpB_append rfl (.tmp 20) (.tmp 21) rfl w1.heap.size (.slice (some ⟨w1.heap.size, 0, none⟩) 0 0) [] rfl HO.out (some ⟨w.heap.size, 0, none⟩) L L l rfl HI1.out (by simp) (by simp; omega) (by simp) ?_; intro v2 w2 hown2 hg2; simp only [List.nil_append] at hown2)
    | (at_builtin; refine wpB_append rfl (.tmp 22) (.tmp 23) rfl w1.heap.size v2 l rfl hown2 a1 len1 cap1 z1 rfl (isB_old HB.out.isB ((HB1.out.alloc (by omega) _).grown hg2 (by simp; omega) (by intro k hk; simp [Value.ownBlock] at hk; omega))) HB.out.none_of (by have := HL.out; omega) (by have := hg2.size; simp at this; omega) ?_; intro v3 w3 hown3 hg3))
  have hb2 : Below w1.heap.size w1 w2 := ((Below.refl _ _).alloc (Nat.le_refl _) _).grown hg2 (by simp) (by intro k hk; simp [Value.ownBlock] at hk; omega)
  have hz2 := hb2.size
  have hz3 := hg3.size
  have hb3 : Below w1.heap.size w1 w3 := hb2.grown hg3 hz2 (own_block hown2)
  have HB3 : Hid (Below w.heap.size w w3) := HB1.out.trans (hb3.mono (by omega))
  have HI3 : Hid (IsB w3 (some ⟨w.heap.size, 0, none⟩) L l) := isB_old HI.out hb3
  obtain ⟨a3, c3, rfl, hI3, _, _⟩ := own_isB hown3 (by intro z hz; rcases List.mem_append.1 hz with h | h; exact HVB.out z h; exact isB_bytes HB.out.isB z h) (by have := HL.out; have := HB.out.1; rw [List.length_append]; omega)
  clear hown2 hg2 hown3 hg3 hb2 hb3 HO HI1 HI HB1
  refine (take_any _ _ _ (l ++ z1) _ hI3).mono ?_
  rintro e w' ⟨rfl, rfl⟩
  rw [HD.out]
  clear hI3 HD
  obtain ⟨c, hmc⟩ := Int.eq_ofNat_of_zero_le (Int.emod_nonneg a2 (show (L : Int) ≠ 0 by omega))
  have hcL : c < L := by
    have := Int.emod_lt_of_pos a2 (show (0 : Int) < L by omega)
    rw [hmc] at this; omega
  go_wp2_with fail
  refine (take_any _ _ _ (l.take c) _ (isB_take HI3.out c (by omega))).mono ?_
  rintro e w' ⟨rfl, rfl⟩
  rw [HC.out c hcL]
  go_wp2_with fail
  go_ret
  exact ⟨rfl, HB3.out⟩

/-! ### THE ROW's STEP: WRITTEN OUT: LEAVE IT -/
set_option maxRecDepth 100000 in
theorem lifted (os : Os) (started : os.Started) (H : Type) (enc : TypeId × Value → H) :
    ReturnsInHanded {} Try.checked os 5 .any (Rows.varintBackSpec.pre6 enc Try.prog Try.f5 Rows.varintBackRow.domain false) (Rows.varintBackSpec.post enc Try.prog Try.f5 false true false false) := by
  refine returnsInHanded_of_change_sized (C := Try.checked) own started (by kernel_rfl) Try.func5
    (ChangeSpec.witness6 (enc := enc) (C := Try.checked) false ⟨#[], #[.int .u64 0, .slice none 0 0, .int .u8 0], []⟩ 8 (by kernel_rfl) (by kernel_rfl) (by kernel_rfl) (by kernel_rfl)) ?_
  intro W base args ds gs before hval0 hW hcnd hsz0 _
  have hval : ∀ (j : Nat) t v, Try.f5.params[j]? = some t → args[j]? = some v → Value.okWide Try.prog W .any base t v := hval0
  have hsz : (DataW.weightsEach Try.prog (Try.f5.params.toList ++ Rows.varintBackSpec.plain.varTypes Try.prog) (ds ++ gs)).all (· ≤ reachBytes) = true := hsz0
  clear hsz0
  have hW' := hW
  obtain ⟨p, q, hA0, hV, rfl, hfz, hnd⟩ := hW
  have hA : DataW.TrodAll enc Try.prog W 0 (fun _ => true) true Try.f5.params.toList args.toList ds p := hA0
  rw [Try.params5] at hA hval hsz
  obtain ⟨v0, vs0, d0, ds0, p0, q0, hargs, rfl, rfl, h0, r0⟩ := trodAll_cons hA
  obtain ⟨v1, vs1, d1, ds1, p1, q1, rfl, rfl, rfl, h1, r1⟩ := trodAll_cons r0
  obtain ⟨v2, vs2, d2, ds2, p2, q2, rfl, rfl, rfl, h2, r2⟩ := trodAll_cons r1
  obtain ⟨rfl, rfl, rfl⟩ := trodAll_nil r2
  obtain rfl : args = #[v0, v1, v2] := by cases args; simp_all
  obtain ⟨rfl, rfl⟩ := trodVars_none hV
  obtain ⟨a0, rfl, rfl, rfl, w0⟩ := open_int Try.underlying23 (hval 0 23 v0 rfl rfl) h0
  obtain ⟨a1, len1, cap1, rfl⟩ := okWide_slice Try.underlying22 (hval 1 22 v1 rfl rfl)
  have k1 := h1
  have lt1 : ∀ x ∈ p1, x.block < W.heap.size := by obtain ⟨m, hm⟩ := k1; exact DataW.trod_lt m _ _ _ hm
  obtain ⟨z1, w1⟩ : ∃ zs, ArgB W a1 len1 cap1 zs := by
    obtain ⟨fuel, hf⟩ := h1
    rcases open_ints Try.underlying22 Try.underlying5 (by kernel_rfl) hf with ⟨hcs, _⟩ | ⟨x, l, c, zs, hcs, _, hl, hm, hz, hx, hcell, hwz⟩
    · simp [Value.cells] at hcs
      obtain ⟨rfl, rfl, rfl⟩ := hcs
      exact ⟨[], argB_nil _⟩
    · simp [Value.cells] at hcs
      obtain ⟨rfl, rfl, rfl⟩ := hcs
      simp only [Prod.mk.injEq] at hx
      obtain ⟨rfl, _⟩ := hx
      simp only [if_true] at hz
      have hreach : cap1 ≤ 140737488351232 := by
        have := sized_slice hsz (j := 1) (t := 22) (e := 5) rfl rfl Try.underlying22
        rw [show Try.prog.bytesOf 5 = 1 by kernel_rfl] at this
        simp only [lits, List.length_map, List.length_take, List.length_drop, reachBytes] at this
        omega
      exact ⟨zs.take len1, argB_of hl hreach hz hcell hwz⟩
  obtain ⟨a2, rfl, rfl, rfl, w2⟩ := open_int Try.underlying5 (hval 2 5 v2 rfl rfl) h2
  clear hA0 hval0
  refine (walk a0 a1 len1 cap1 z1 a2 W w0 w1 w2).mono fun e W' ⟨he, bel⟩ => ?_
  subst he
  exact ⟨_, rfl, _, _, _, [], _, [], hW', trodAll_mk1 (shut_bool Try.underlying4 _), (trodAll_cons_mk (shut_int Try.underlying23 w0) (trodAll_cons_mk (Below.trod laidOut (by kernel_rfl) (of_decide_eq_true (by kernel_rfl)) k1 bel lt1) (trodAll_cons_mk (shut_int Try.underlying5 w2) trodAll_mk0))), rfl, bel.frame _, fun h => by cases h⟩

theorem over : Rows.varintBackRow.holds Try.pinned (OpenSpec.ofChange Rows.varintBackSpec) :=
  OpenClaim.holds_of_wide 5 Try.f5 rfl rfl rfl rfl rfl rfl rfl ⟨rfl, rfl, rfl, rfl, rfl⟩ rfl rfl rfl rfl rfl (by kernel_rfl) Try.func5 (by kernel_rfl)
    (of_decide_eq_true (by kernel_rfl)) (by unfold Func.isWrapper; first | (rw [if_pos (by decide +kernel)]; kernel_rfl) | (rw [if_neg (by decide +kernel)]; exact ⟨rfl, rfl⟩))
    (fun os started H enc _ => lifted os started H enc)

/-- ████ THE STATEMENT ████ -/
theorem proved : Rows.VarintBackSaid := over
end Go.Proofs.Ytndknaiicmkeiaa.varintBack
namespace Go.Proofs.Ytndknaiicmkeiaa
theorem varintBack_holds : Rows.VarintBackSaid := varintBack.proved
end Go.Proofs.Ytndknaiicmkeiaa
