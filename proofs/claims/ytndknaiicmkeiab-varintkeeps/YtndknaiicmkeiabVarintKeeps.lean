/-
  The Go function VarintKeeps answers true for every slice of bytes and every number; its arguments read afterwards as before: what is appended to is left as it is, its spare room too, and what comes is new memory. No condition.
-/
import Derived.Test.YtndknaiicmkeiabRows
import Derived.WalkKit
import Derived.ProofKit
import Derived.OpenShut
import Derived.ShutString
import Derived.SizedLaws
import Derived.Deep.RegionWith
import Derived.Deep.RegionLaw
import Derived.Deep.DeepCutAuto
import Derived.Test.YtndknaiicmkeiabBase
import Derived.Test.YtndknaiicmkeiabMem
import Derived.Test.YtndknaiicmkeiabGrown
import Derived.Test.YtndknaiicmkeiabStr
import Derived.Test.YtndknaiicmkeiabApp
import Derived.Test.YtndknaiicmkeiabAFix
import Derived.ChangeOld
import Derived.Below
namespace Go.Proofs.Ytndknaiicmkeiab.varintKeeps
open Go.ChangeShapes Go.WideShapes Go.ChangeAt Go.RowKit
open Go.ChangeMaps (open_string shut_string)
set_option linter.unusedVariables false

theorem own : ownKnob Try.prog.godebug = none := by kernel_rfl
theorem laidOut : laidOutB Try.prog = true := by kernel_rfl

theorem room_at (z0 : List Int) (i : Nat) (h1 : z0.length ≤ i) (h2 : i < z0.length + 20) : (z0 ++ List.replicate 20 (0 : Int))[i]? = some 0 := by
  rw [List.getElem?_append_right h1, List.getElem?_replicate, if_pos (by omega)]
theorem isB_front (w : World) (z0 t : List Int) (len : Nat) (hl : z0.length = len) (hm : len ≤ 140737488351232) (hb : ∀ z ∈ z0, 0 ≤ z ∧ z ≤ 255) : IsB (blk w 5 (z0 ++ t)) (some ⟨w.heap.size, 0, none⟩) len z0 := by
  refine ⟨hl, by omega, .inr ⟨_, _, rfl, ?_, hb⟩⟩
  intro j z hj
  rw [Nat.zero_add]
  refine blk_cell w 5 _ ?_
  have hjl : j < z0.length := by
    by_cases hjl : j < z0.length
    · exact hjl
    · rw [List.getElem?_eq_none (by omega)] at hj; simp at hj
  rw [List.getElem?_append_left hjl]; exact hj
set_option maxHeartbeats 1000000 in
theorem walk (a0 : Option Addr) (len0 cap0 : Nat) (z0 : List Int) (a1 : Int) (w : World) (w0 : ArgB w a0 len0 cap0 z0) (w1 : (Lit.int .u64 a1).wf = true) :
    Calls Try.prog 4 #[.slice a0 len0 cap0, .int .u64 a1] w fun e w' => e = .returned (.bool true) ∧ Below w.heap.size w w' := by
  have hlc : len0 ≤ cap0 := w0.2.1
  have hcm : cap0 ≤ 140737488351232 := w0.2.2.1
  have hlm : len0 ≤ 140737488351232 := by omega
  have hB := w0.isB
  have HB : Hid (IsB w a0 len0 z0) := hB
  have HLz : Hid (z0.length = len0) := hB.1
  obtain ⟨hn0, hn1⟩ := bd_u64 w1
  obtain ⟨n, rfl⟩ := Int.eq_ofNat_of_zero_le hn0
  have hn : n ≤ 18446744073709551615 := by omega
  have HN : Hid (n ≤ 18446744073709551615) := hn
  have hvp := vint_pos n
  have hvt := vint_ten hn
  have hm : (Instr.makeSlice 22 (.int .i64 (len0 : Int)) (.int .i64 ((len0 : Int) + 20))).run Try.prog w = .ok (.slice (some ⟨w.heap.size, 0, none⟩) len0 (len0 + 20)) (blk w 5 (List.replicate (len0 + 20) 0)) := by
    have := run_make_u8 w len0 (len0 + 20) (by omega) (by omega)
    rw [Int.natCast_add] at this; exact this
  have hc := fun ty => run_copy_u8 w a0 len0 cap0 z0 20 len0 (len0 + 20) ty hB (Nat.le_refl _)
  have HI1 : Hid (IsB (blk w 5 (z0 ++ List.replicate 20 0)) (some ⟨w.heap.size, 0, none⟩) len0 z0) := isB_front w z0 _ len0 hB.1 hlm (isB_bytes hB)
  have HC1 : Hid (∀ i, len0 ≤ i → i < len0 + 20 → (blk w 5 (z0 ++ List.replicate 20 0)).cell? ⟨w.heap.size, i, none⟩ = some (.int .u8 0)) := fun i h1 h2 => blk_cell w 5 _ (room_at z0 i (by have := HLz.out; omega) (by have := HLz.out; omega))
  have HB1 : Hid (Below w.heap.size w (blk w 5 (z0 ++ List.replicate 20 0))) := blk_below w 5 _
  have HZ1 : Hid ((blk w 5 (z0 ++ List.replicate 20 0)).heap.size = w.heap.size + 1) := blk_size w 5 _
  have HBB : Hid (∀ z ∈ z0, 0 ≤ z ∧ z ≤ 255) := isB_bytes hB
  clear w0 w1 hB hn1 hn0 hlc hcm hn
  generalize blk w 5 (z0 ++ List.replicate 20 0) = W1 at *
  generalize blk w 5 (List.replicate (len0 + 20) 0) = W0 at *
  obtain ⟨L, hL⟩ : ∃ L, (vint n).length = L := ⟨_, rfl⟩
  have HAP : Hid (∀ (a : Option Addr) (cap : Nat) (w : World), IsB w a len0 z0 → Calls Try.prog 8 #[.slice a len0 cap, .int .u64 n] w fun e w' =>
      e = .returned (.slice (some ⟨w.heap.size, 0, none⟩) (len0 + L) (len0 + L)) ∧ w' = blk w 5 (z0 ++ vint n)) := by
    intro a cap w h
    have := append_any a len0 cap z0 n w h HN.out hlm
    rw [hL] at this; exact this
  rw [hL] at hvp hvt
  have HL : Hid ((vint n).length = L) := hL
  clear hL
  go_enter Try.func4, Try.ntmps4
  go_wp2_with fail
  refine (HAP.out _ _ _ HI1.out).mono ?_
  rintro e W2 ⟨rfl, hW2⟩
  have HB2 : Hid (Below W1.heap.size W1 W2) := by rw [hW2]; exact blk_below W1 5 _
  have HZ2 : Hid (W2.heap.size = W1.heap.size + 1) := by rw [hW2]; exact blk_size W1 5 _
  obtain ⟨y, hy⟩ : ∃ y, (z0 ++ vint n)[0]? = some y := ⟨_, List.getElem?_eq_getElem (by rw [List.length_append]; have := HL.out; omega)⟩
  have HC2 : Hid (W2.cell? ⟨W1.heap.size, 0, none⟩ = some (.int .u8 y)) := by rw [hW2]; exact blk_cell W1 5 _ hy
  have HF2 : Hid (W2.frozen? ⟨W1.heap.size, 0, none⟩ = false) := by rw [hW2]; exact blk_frozen W1 5 _ _
  clear hW2 hy HAP hm hc
  go_wp2_with fail
  refine (append32_any _ _ _ z0 1 _ (isB_old HI1.out HB2.out) (by omega) (by omega) hlm).mono ?_
  rintro e W3 ⟨rfl, hW3⟩
  have HB3 : Hid (Below W2.heap.size W2 W3) := by rw [hW3]; exact blk_below W2 5 _
  have HZ3 : Hid (W3.heap.size = W2.heap.size + 1) := by rw [hW3]; exact blk_size W2 5 _
  clear hW3
  go_wp2_with fail
  refine (append64_any _ _ _ z0 2 _ (isB_old (isB_old HI1.out HB2.out) HB3.out) (by omega) (by omega) hlm).mono ?_
  rintro e W4 ⟨rfl, hW4⟩
  have HB4 : Hid (Below W3.heap.size W3 W4) := by rw [hW4]; exact blk_below W3 5 _
  clear hW4
  have hz1 := HZ1.out
  have hz2 := HZ2.out
  have hz3 := HZ3.out
  have HB14 : Hid (Below W1.heap.size W1 W4) := (HB2.out.trans (HB3.out.mono (by omega))).trans (HB4.out.mono (by omega))
  have HB24 : Hid (Below W2.heap.size W2 W4) := HB3.out.trans (HB4.out.mono (by omega))
  have hcell : W4.cell? ⟨W1.heap.size, 0, none⟩ = some (.int .u8 y) := by rw [HB24.out.cell (by show W1.heap.size < W2.heap.size; omega)]; exact HC2.out
  have hfro : W4.frozen? ⟨W1.heap.size, 0, none⟩ = false := by rw [HB24.out.frozen (by show W1.heap.size < W2.heap.size; omega)]; exact HF2.out
  have HC4 : Hid (∀ i, len0 ≤ i → i < len0 + 20 → W4.cell? ⟨w.heap.size, i, none⟩ = some (.int .u8 0)) := by
    intro i h1 h2
    rw [HB14.out.cell (by show w.heap.size < W1.heap.size; omega)]; exact HC1.out i h1 h2
  have HI4 : Hid (IsB W4 (some ⟨w.heap.size, 0, none⟩) len0 z0) := isB_old HI1.out HB14.out
  have HB04 : Hid (Below w.heap.size w W4) := HB1.out.trans (HB14.out.mono (by omega))
  have hzz : w.heap.size < W1.heap.size := by omega
  have HB5 : Hid (∀ v, Below W1.heap.size W1 (W4.setCell ⟨W1.heap.size, 0, none⟩ v)) := fun v => HB14.out.setCell (Nat.le_refl _) v
  have HS1 : Hid (∀ v, (convert 22 9 (.slice (some ⟨w.heap.size, 0, none⟩) len0 (len0 + 20))).run Try.prog (W4.setCell ⟨W1.heap.size, 0, none⟩ v) = .ok (.string (strOfNums z0)) (W4.setCell ⟨W1.heap.size, 0, none⟩ v)) :=
    fun v => run_str _ _ _ _ _ (isB_old HI1.out (HB5.out v))
  have HS2 : Hid (∀ v, (convert 22 9 (.slice a0 len0 cap0)).run Try.prog (W4.setCell ⟨W1.heap.size, 0, none⟩ v) = .ok (.string (strOfNums z0)) (W4.setCell ⟨W1.heap.size, 0, none⟩ v)) :=
    fun v => run_str _ _ _ _ _ (isB_old HB.out (HB1.out.trans ((HB5.out v).mono (by omega))))
  have HBE : Hid (∀ v, Below w.heap.size w (W4.setCell ⟨W1.heap.size, 0, none⟩ v)) := fun v => HB1.out.trans ((HB5.out v).mono (by omega))
  clear hz1 hz2 hz3 HC1 HI1 HB2 HB3 HB4 HC2 HF2 HB5 HB14 HB24 HB04 HB1 HI4 HB
  go_wp2_with fail
  go_loop [10] (fun i => ∃ k : Nat, k ≤ 20 ∧ i = .int .i64 (len0 + k : Nat)) (fun i => len0 + 20 - (intOf i).toNat)
  case atStart => exact ⟨0, by omega, by simp⟩
  case round =>
    obtain ⟨k, hk, rfl⟩ := hrel
    by_cases hlt : k < 20
    · have hc := HC4.out (len0 + k) (by omega) (by omega)
      clear HS1 HS2 HBE hcell hfro
      go_wp2_with fail
      go_round
      case rel => exact ⟨k + 1, by omega, by go_num⟩
      case measure => simp [intOf]; omega
    · have hs1 := HS1.out
      have hs2 := HS2.out
      go_wp2_with fail
      go_ret
      exact ⟨rfl, HBE.out _⟩

/-! ### THE ROW's STEP: WRITTEN OUT: LEAVE IT -/
set_option maxRecDepth 100000 in
theorem lifted (os : Os) (started : os.Started) (H : Type) (enc : TypeId × Value → H) :
    ReturnsInHanded {} Try.checked os 4 .any (Rows.varintKeepsSpec.pre6 enc Try.prog Try.f4 Rows.varintKeepsRow.domain false) (Rows.varintKeepsSpec.post enc Try.prog Try.f4 false true false false) := by
  refine returnsInHanded_of_change_sized (C := Try.checked) own started (by kernel_rfl) Try.func4
    (ChangeSpec.witness6 (enc := enc) (C := Try.checked) false ⟨#[], #[.slice none 0 0, .int .u64 0], []⟩ 8 (by kernel_rfl) (by kernel_rfl) (by kernel_rfl) (by kernel_rfl)) ?_
  intro W base args ds gs before hval0 hW hcnd hsz0 _
  have hval : ∀ (j : Nat) t v, Try.f4.params[j]? = some t → args[j]? = some v → Value.okWide Try.prog W .any base t v := hval0
  have hsz : (DataW.weightsEach Try.prog (Try.f4.params.toList ++ Rows.varintKeepsSpec.plain.varTypes Try.prog) (ds ++ gs)).all (· ≤ reachBytes) = true := hsz0
  clear hsz0
  have hW' := hW
  obtain ⟨p, q, hA0, hV, rfl, hfz, hnd⟩ := hW
  have hA : DataW.TrodAll enc Try.prog W 0 (fun _ => true) true Try.f4.params.toList args.toList ds p := hA0
  rw [Try.params4] at hA hval hsz
  obtain ⟨v0, vs0, d0, ds0, p0, q0, hargs, rfl, rfl, h0, r0⟩ := trodAll_cons hA
  obtain ⟨v1, vs1, d1, ds1, p1, q1, rfl, rfl, rfl, h1, r1⟩ := trodAll_cons r0
  obtain ⟨rfl, rfl, rfl⟩ := trodAll_nil r1
  obtain rfl : args = #[v0, v1] := by cases args; simp_all
  obtain ⟨rfl, rfl⟩ := trodVars_none hV
  obtain ⟨a0, len0, cap0, rfl⟩ := okWide_slice Try.underlying22 (hval 0 22 v0 rfl rfl)
  have k0 := h0
  have lt0 : ∀ x ∈ p0, x.block < W.heap.size := by obtain ⟨m, hm⟩ := k0; exact DataW.trod_lt m _ _ _ hm
  obtain ⟨z0, w0⟩ : ∃ zs, ArgB W a0 len0 cap0 zs := by
    obtain ⟨fuel, hf⟩ := h0
    rcases open_ints Try.underlying22 Try.underlying5 (by kernel_rfl) hf with ⟨hcs, _⟩ | ⟨x, l, c, zs, hcs, _, hl, hm, hz, hx, hcell, hwz⟩
    · simp [Value.cells] at hcs
      obtain ⟨rfl, rfl, rfl⟩ := hcs
      exact ⟨[], argB_nil _⟩
    · simp [Value.cells] at hcs
      obtain ⟨rfl, rfl, rfl⟩ := hcs
      simp only [Prod.mk.injEq] at hx
      obtain ⟨rfl, _⟩ := hx
      simp only [if_true] at hz
      have hreach : cap0 ≤ 140737488351232 := by
        have := sized_slice hsz (j := 0) (t := 22) (e := 5) rfl rfl Try.underlying22
        rw [show Try.prog.bytesOf 5 = 1 by kernel_rfl] at this
        simp only [lits, List.length_map, List.length_take, List.length_drop, reachBytes] at this
        omega
      exact ⟨zs.take len0, argB_of hl hreach hz hcell hwz⟩
  obtain ⟨a1, rfl, rfl, rfl, w1⟩ := open_int Try.underlying27 (hval 1 27 v1 rfl rfl) h1
  clear hA0 hval0
  refine (walk a0 len0 cap0 z0 a1 W w0 w1).mono fun e W' ⟨he, bel⟩ => ?_
  subst he
  exact ⟨_, rfl, _, _, _, [], _, [], hW', trodAll_mk1 (shut_bool Try.underlying4 _), (trodAll_cons_mk (Below.trod laidOut (by kernel_rfl) (of_decide_eq_true (by kernel_rfl)) k0 bel lt0) (trodAll_cons_mk (shut_int Try.underlying27 w1) trodAll_mk0)), rfl, bel.frame _, fun h => by cases h⟩

theorem over : Rows.varintKeepsRow.holds Try.pinned (OpenSpec.ofChange Rows.varintKeepsSpec) :=
  OpenClaim.holds_of_wide 4 Try.f4 rfl rfl rfl rfl rfl rfl rfl ⟨rfl, rfl, rfl, rfl, rfl⟩ rfl rfl rfl rfl rfl (by kernel_rfl) Try.func4 (by kernel_rfl)
    (of_decide_eq_true (by kernel_rfl)) (by unfold Func.isWrapper; first | (rw [if_pos (by decide +kernel)]; kernel_rfl) | (rw [if_neg (by decide +kernel)]; exact ⟨rfl, rfl⟩))
    (fun os started H enc _ => lifted os started H enc)

/-- ████ THE STATEMENT ████ -/
theorem proved : Rows.VarintKeepsSaid := over
end Go.Proofs.Ytndknaiicmkeiab.varintKeeps
namespace Go.Proofs.Ytndknaiicmkeiab
theorem varintKeeps_holds : Rows.VarintKeepsSaid := varintKeeps.proved
end Go.Proofs.Ytndknaiicmkeiab
