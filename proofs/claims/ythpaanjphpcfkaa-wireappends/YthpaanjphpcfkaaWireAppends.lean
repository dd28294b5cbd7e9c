/-
  For every input the law WireAppends returns true and its arguments read as before. No condition.
-/
import Derived.Test.YthpaanjphpcfkaaRows
import Derived.WalkKit
import Derived.ProofKit
import Derived.OpenShut
import Derived.ShutString
import Derived.SizedLaws
import Derived.ChangeOld
import Derived.Below
import Derived.Deep.RegionWith
import Derived.Deep.RegionLaw
import Derived.Deep.DeepCutAuto
import Derived.Deep.RegionHeldLaw
import Derived.Test.YthpaanjphpcfkaaWApp
import Derived.Test.YthpaanjphpcfkaaFld
namespace Go.Proofs.Ythpaanjphpcfkaa.wireAppends
open Go.ChangeShapes Go.WideShapes Go.ChangeAt Go.RowKit
open Go.ChangeMaps (open_string shut_string)
set_option linter.unusedVariables false

theorem own : ownKnob Try.prog.godebug = none := by kernel_rfl
theorem laidOut : laidOutB Try.prog = true := by kernel_rfl

theorem fbytes_len (num ty n : Int) (d : List Int) (h0 : 0 ≤ n) (h1 : n ≤ 18446744073709551615) (hm0 : 1 ≤ num) (hm1 : num ≤ 536870911) (ht : 0 ≤ ty ∧ ty ≤ 5) (hd : d.length ≤ 18446744073709551615) : (fbytes num ty n d).length ≤ d.length + 20 := by
  unfold fbytes
  have h1 := vint_ten (n := (8 * num + ty).toNat) (by omega)
  have h2 := vint_ten (n := n.toNat) (by omega)
  have h3 := vint_ten (n := d.length) (by omega)
  rw [List.length_append]
  split
  · omega
  · split
    · rw [lob_length]; omega
    · split
      · rw [lob_length]; omega
      · rw [List.length_append]; omega
theorem fbytes_bytes (num ty n : Int) (d : List Int) (hd : ∀ z ∈ d, 0 ≤ z ∧ z ≤ 255) : ∀ z ∈ fbytes num ty n d, 0 ≤ z ∧ z ≤ 255 := by
  unfold fbytes
  intro z hz
  rcases List.mem_append.1 hz with h | h
  · exact vint_bytes _ z h
  · split at h
    · exact vint_bytes _ z h
    · split at h
      · exact lob_bytes _ _ z h
      · split at h
        · exact lob_bytes _ _ z h
        · rcases List.mem_append.1 h with h | h
          · exact vint_bytes _ z h
          · exact hd z h
set_option maxHeartbeats 4000000 in
theorem walk (a0 : Option Addr) (len0 cap0 : Nat) (z0 : List Int) (num1 ty1 n1 : Int) (a1 : Option Addr) (len1 cap1 : Nat) (z1 : List Int) (w : World) (w0 : ArgB w a0 len0 cap0 z0) (b1 : -9223372036854775808 ≤ num1 ∧ num1 ≤ 9223372036854775807) (t1 : -9223372036854775808 ≤ ty1 ∧ ty1 ≤ 9223372036854775807) (m1 : 0 ≤ n1 ∧ n1 ≤ 18446744073709551615) (w1 : ArgB w a1 len1 cap1 z1) :
    Calls Try.prog 3 #[.slice a0 len0 cap0, fv num1 ty1 n1 a1 len1 cap1] w fun e w' => e = .returned (.bool true) ∧ Below w.heap.size w w' := by
  have hlm : len0 ≤ 140737488351232 := by have := w0.2.1; have := w0.2.2.1; omega
  have hlm1 : len1 ≤ 140737488351232 := by have := w1.2.1; have := w1.2.2.1; omega
  have HNO : Hid (a0 = none → len0 = 0 ∧ cap0 = 0) := w0.none_of
  have HNO1 : Hid (a1 = none → len1 = 0 ∧ cap1 = 0) := w1.none_of
  have HB0 : Hid (IsB w a0 len0 z0) := w0.isB
  have HB1 : Hid (IsB w a1 len1 z1) := w1.isB
  have HL0 : Hid (z0.length = len0) := HB0.out.1
  have HL1 : Hid (z1.length = len1) := HB1.out.1
  have HT := fun (W : World) => theirs_any num1 ty1 n1 a1 len1 cap1 W
  have HFR := fun (W : World) => formedR_any num1 ty1 n1 a1 len1 cap1 W
  have HFW := fun (W : World) => formedW_any num1 ty1 n1 a1 len1 cap1 W
  obtain ⟨f, hf⟩ : ∃ f, fmd num1 ty1 n1 len1 = f := ⟨_, rfl⟩
  rw [hf] at HFR HFW
  have HTT : Hid (∀ (W : World), Calls Try.prog 10 #[fv num1 ty1 n1 a1 len1 cap1] W fun e w' => e = .returned (fv num1 ty1 n1 a1 len1 cap1) ∧ Below W.heap.size W w') := HT
  cases f with
  | false =>
    have HA := fun (W : World) => appendW_bad a0 a1 len0 cap0 len1 cap1 num1 ty1 n1 W hf
    clear hf HT w0 w1
    unfold fv at *
    go_enter Try.func3, Try.ntmps3
    go_wp2_with fail
    refine (awake_any _).mono ?_
    rintro e W1 ⟨rfl, hb1⟩
    have c0 : W1.cell? ⟨w.heap.size, 0, none⟩ = some (.int .i64 num1) := (hb1.cell (by simp)).trans (by simp)
    have c1 : W1.cell? ⟨w.heap.size, 1, none⟩ = some (.int .i64 ty1) := (hb1.cell (by simp)).trans (by simp)
    have c2 : W1.cell? ⟨w.heap.size, 2, none⟩ = some (.int .u64 n1) := (hb1.cell (by simp)).trans (by simp)
    have c3 : W1.cell? ⟨w.heap.size, 3, none⟩ = some (.slice a1 len1 cap1) := (hb1.cell (by simp)).trans (by simp)
    have hz1 := hb1.size
    simp only [World.size_alloc] at hz1
    have HW1 : Hid (Below w.heap.size w W1) := ((Below.refl _ _).alloc (Nat.le_refl _) _).trans (hb1.mono (by simp))
    clear hb1
    go_wp2_with fail
    refine (HTT.out _).mono ?_
    rintro e W2 ⟨rfl, hb2⟩
    go_wp2_with fail
    refine (HA _).mono ?_
    rintro e W3 ⟨rfl, hb3⟩
    have hb13 : Below W1.heap.size W1 W3 := hb2.trans (hb3.mono hb2.size)
    have d0 : W3.cell? ⟨w.heap.size, 0, none⟩ = some (.int .i64 num1) := (hb13.cell (show w.heap.size < W1.heap.size by omega)).trans c0
    have d1 : W3.cell? ⟨w.heap.size, 1, none⟩ = some (.int .i64 ty1) := (hb13.cell (show w.heap.size < W1.heap.size by omega)).trans c1
    have d2 : W3.cell? ⟨w.heap.size, 2, none⟩ = some (.int .u64 n1) := (hb13.cell (show w.heap.size < W1.heap.size by omega)).trans c2
    have d3 : W3.cell? ⟨w.heap.size, 3, none⟩ = some (.slice a1 len1 cap1) := (hb13.cell (show w.heap.size < W1.heap.size by omega)).trans c3
    have HW3 : Hid (Below w.heap.size w W3) := HW1.out.trans (hb13.mono (by omega))
    have hz3 : w.heap.size + 1 ≤ W3.heap.size := by have := hb13.size; omega
    clear hb2 hb3 hb13 c0 c1 c2 c3
    go_wp2_with fail
    refine (HFR _).mono ?_
    rintro e W4 ⟨rfl, hb4⟩
    have e0 : W4.cell? ⟨w.heap.size, 0, none⟩ = some (.int .i64 num1) := (hb4.cell (show w.heap.size < W3.heap.size by omega)).trans d0
    have e1 : W4.cell? ⟨w.heap.size, 1, none⟩ = some (.int .i64 ty1) := (hb4.cell (show w.heap.size < W3.heap.size by omega)).trans d1
    have e2 : W4.cell? ⟨w.heap.size, 2, none⟩ = some (.int .u64 n1) := (hb4.cell (show w.heap.size < W3.heap.size by omega)).trans d2
    have e3 : W4.cell? ⟨w.heap.size, 3, none⟩ = some (.slice a1 len1 cap1) := (hb4.cell (show w.heap.size < W3.heap.size by omega)).trans d3
    have HW4 : Hid (Below w.heap.size w W4) := HW3.out.trans (hb4.mono (by omega))
    clear hb4 d0 d1 d2 d3
    go_wp2_with fail
    refine (HTT.out _).mono ?_
    rintro e W5 ⟨rfl, hb5⟩
    go_wp2_with fail
    refine (HFW _).mono ?_
    rintro e W6 ⟨rfl, hb6⟩
    have HW6 : Hid (Below w.heap.size w W6) := HW4.out.trans ((hb5.trans (hb6.mono hb5.size)).mono HW4.out.size)
    clear hb5 hb6
    go_wp2_with fail
    go_ret
    exact ⟨rfl, HW6.out⟩
  | true =>
    have hf2 : 1 ≤ num1 ∧ num1 ≤ 536870911 ∧ (((ty1 = 0 ∨ ty1 = 1) ∧ len1 = 0) ∨ (ty1 = 5 ∧ len1 = 0 ∧ n1 < 4294967296) ∨ (ty1 = 2 ∧ n1 = 0)) := by
      unfold fmd at hf; simpa using hf
    have HA : Hid (∀ (W : World), Below w.heap.size w W → Calls Try.prog 9 #[.slice a0 len0 cap0, fv num1 ty1 n1 a1 len1 cap1] W fun e w' =>
      ∃ v', e = .returned (.tuple #[v', .int .i64 0]) ∧ OwnB w' W.heap.size v' (z0 ++ fbytes num1 ty1 n1 z1) ∧ Below W.heap.size W w') := fun (W : World) (h : Below w.heap.size w W) => appendW_ok a0 a1 len0 cap0 len1 cap1 z0 z1 num1 ty1 n1 W (isB_old HB0.out h) HNO.out (isB_old HB1.out h) HNO1.out m1.1 m1.2 hf (by omega)
    have HBY : Hid (∀ (W : World), Below w.heap.size w W → Calls Try.prog 13 #[fv num1 ty1 n1 a1 len1 cap1] W fun e w' => ∃ v', e = .returned v' ∧ OwnB w' W.heap.size v' (fbytes num1 ty1 n1 z1) ∧ Below W.heap.size W w') :=
      fun (W : World) (h : Below w.heap.size w W) => bytesR_any num1 ty1 n1 a1 len1 cap1 z1 W (isB_old HB1.out h) m1.1 m1.2 hf2.1 hf2.2.1 (by omega) hlm1 HNO1.out
    have HBL : Hid ((fbytes num1 ty1 n1 z1).length ≤ len1 + 20) := by
      have := fbytes_len num1 ty1 n1 z1 m1.1 m1.2 hf2.1 hf2.2.1 (by omega) (by rw [HL1.out]; omega)
      rw [HL1.out] at this; exact this
    have HBB : Hid (∀ z ∈ fbytes num1 ty1 n1 z1, 0 ≤ z ∧ z ≤ 255) := fbytes_bytes _ _ _ _ (isB_bytes HB1.out)
    have HZB : Hid (∀ z ∈ z0 ++ fbytes num1 ty1 n1 z1, 0 ≤ z ∧ z ≤ 255) := by
      intro z hz; rcases List.mem_append.1 hz with h | h; exact isB_bytes HB0.out z h; exact HBB.out z h
    clear hf HT w0 w1 hf2
    generalize fbytes num1 ty1 n1 z1 = fb at *
    unfold fv at *
    go_enter Try.func3, Try.ntmps3
    go_wp2_with fail
    refine (awake_any _).mono ?_
    rintro e W1 ⟨rfl, hb1⟩
    have c0 : W1.cell? ⟨w.heap.size, 0, none⟩ = some (.int .i64 num1) := (hb1.cell (by simp)).trans (by simp)
    have c1 : W1.cell? ⟨w.heap.size, 1, none⟩ = some (.int .i64 ty1) := (hb1.cell (by simp)).trans (by simp)
    have c2 : W1.cell? ⟨w.heap.size, 2, none⟩ = some (.int .u64 n1) := (hb1.cell (by simp)).trans (by simp)
    have c3 : W1.cell? ⟨w.heap.size, 3, none⟩ = some (.slice a1 len1 cap1) := (hb1.cell (by simp)).trans (by simp)
    have hz1 := hb1.size
    simp only [World.size_alloc] at hz1
    have HW1 : Hid (Below w.heap.size w W1) := ((Below.refl _ _).alloc (Nat.le_refl _) _).trans (hb1.mono (by simp))
    clear hb1
    go_wp2_with fail
    refine (HTT.out _).mono ?_
    rintro e W2 ⟨rfl, hb2⟩
    have HW2 : Hid (Below w.heap.size w W2) := HW1.out.trans (hb2.mono (by omega))
    go_wp2_with fail
    refine (HA.out _ HW2.out).mono ?_
    rintro e W3 ⟨v3, rfl, ho3, hb3⟩
    obtain ⟨a3, cc3, rfl, hI3, _, _⟩ := own_isB ho3 HZB.out (by rw [List.length_append]; have := HBL.out; have := HL0.out; omega)
    obtain ⟨TL, hTL⟩ : ∃ TL, (z0 ++ fb).length = TL := ⟨_, rfl⟩
    rw [hTL] at hI3 ⊢
    clear hTL
    have hb13 : Below W1.heap.size W1 W3 := hb2.trans (hb3.mono hb2.size)
    have d0 : W3.cell? ⟨w.heap.size, 0, none⟩ = some (.int .i64 num1) := (hb13.cell (show w.heap.size < W1.heap.size by omega)).trans c0
    have d1 : W3.cell? ⟨w.heap.size, 1, none⟩ = some (.int .i64 ty1) := (hb13.cell (show w.heap.size < W1.heap.size by omega)).trans c1
    have d2 : W3.cell? ⟨w.heap.size, 2, none⟩ = some (.int .u64 n1) := (hb13.cell (show w.heap.size < W1.heap.size by omega)).trans c2
    have d3 : W3.cell? ⟨w.heap.size, 3, none⟩ = some (.slice a1 len1 cap1) := (hb13.cell (show w.heap.size < W1.heap.size by omega)).trans c3
    have HW3 : Hid (Below w.heap.size w W3) := HW1.out.trans (hb13.mono (by omega))
    have hz3 : w.heap.size + 1 ≤ W3.heap.size := by have := hb13.size; omega
    have HI3 : Hid (IsB W3 a3 TL (z0 ++ fb)) := hI3
    clear hb2 hb3 hb13 c0 c1 c2 c3 ho3 hI3 HW2
    go_wp2_with fail
    refine (HFR _).mono ?_
    rintro e W4 ⟨rfl, hb4⟩
    have e0 : W4.cell? ⟨w.heap.size, 0, none⟩ = some (.int .i64 num1) := (hb4.cell (show w.heap.size < W3.heap.size by omega)).trans d0
    have e1 : W4.cell? ⟨w.heap.size, 1, none⟩ = some (.int .i64 ty1) := (hb4.cell (show w.heap.size < W3.heap.size by omega)).trans d1
    have e2 : W4.cell? ⟨w.heap.size, 2, none⟩ = some (.int .u64 n1) := (hb4.cell (show w.heap.size < W3.heap.size by omega)).trans d2
    have e3 : W4.cell? ⟨w.heap.size, 3, none⟩ = some (.slice a1 len1 cap1) := (hb4.cell (show w.heap.size < W3.heap.size by omega)).trans d3
    have HW4 : Hid (Below w.heap.size w W4) := HW3.out.trans (hb4.mono (by omega))
    have hz4 : w.heap.size + 1 ≤ W4.heap.size := by have := hb4.size; omega
    have HI4 : Hid (IsB W4 a3 TL (z0 ++ fb)) := isB_old HI3.out hb4
    have HI0 : Hid (IsB W4 a0 len0 z0) := isB_old HB0.out HW4.out
    clear hb4 d0 d1 d2 d3 HI3
    go_wp2_with fail
    have hs0 : ∀ W, Below W4.heap.size W4 W → (convert 22 9 (.slice a0 len0 cap0)).run Try.prog W = .ok (.string (strOfNums z0)) W := fun W hW => run_str _ _ _ _ _ (isB_old HI0.out hW)
    have hs3 : ∀ W, Below W4.heap.size W4 W → (convert 22 9 (.slice a3 TL cc3)).run Try.prog W = .ok (.string (strOfNums (z0 ++ fb))) W := fun W hW => run_str _ _ _ _ _ (isB_old HI4.out hW)
    have hsz0 : (strOfNums z0).size = len0 := by rw [strOfNums_size]; exact HL0.out
    have hsz4 : (strOfNums fb).size = fb.length := by rw [strOfNums_size]
    have hfl : fb.length ≤ 140737488351252 := by have := HBL.out; omega
    have hcat := str_append z0 fb
    have HSF : Hid (∀ (W : World) (a : Option Addr) (c : Nat), IsB W a fb.length fb → (convert 22 9 (.slice a fb.length c)).run Try.prog W = .ok (.string (strOfNums fb)) W) := fun W a c h => run_str W a _ c _ h
    have hbr : Below W4.heap.size W4 W4 := Below.refl _ _
    have hbd : Below W4.heap.size W4 W4.drew := hbr.drew
    have HBM : Hid (fb.length ≤ 281474976710656) := by
      refine (?_ : fb.length ≤ 281474976710656); omega
    generalize strOfNums (z0 ++ fb) = T at *
    generalize strOfNums z0 = S0 at *
    generalize strOfNums fb = S1 at *
    obtain ⟨FL, hFL⟩ : ∃ FL, fb.length = FL := ⟨_, rfl⟩
    rw [hFL] at hsz4 hfl
    have HFL : Hid (fb.length = FL) := hFL
    clear hFL
    have hle9 : len0 + FL ≤ 9223372036854775807 := by omega
    have hc0 : ∀ W, Below W4.heap.size W4 W → W.cell? ⟨w.heap.size, 0, none⟩ = some (.int .i64 num1) := fun W h => (h.cell (show w.heap.size < W4.heap.size by omega)).trans e0
    have hc1 : ∀ W, Below W4.heap.size W4 W → W.cell? ⟨w.heap.size, 1, none⟩ = some (.int .i64 ty1) := fun W h => (h.cell (show w.heap.size < W4.heap.size by omega)).trans e1
    have hc2 : ∀ W, Below W4.heap.size W4 W → W.cell? ⟨w.heap.size, 2, none⟩ = some (.int .u64 n1) := fun W h => (h.cell (show w.heap.size < W4.heap.size by omega)).trans e2
    have hc3 : ∀ W, Below W4.heap.size W4 W → W.cell? ⟨w.heap.size, 3, none⟩ = some (.slice a1 len1 cap1) := fun W h => (h.cell (show w.heap.size < W4.heap.size by omega)).trans e3
    clear e0 e1 e2 e3
    go_region_held_law (fun W' => Below W4.heap.size W4 W') (first | exact hbd | assumption) (first
      | (go_at_call 13; refine (HBY.out _ (HW4.out.drew)).mono ?_; rintro e W5 ⟨v5, rfl, ho5, hb5⟩; obtain ⟨a5, cc5, rfl, hI5, _, _⟩ := own_isB ho5 HBB.out HBM.out; have hs5 := HSF.out W5 a5 cc5 hI5; have hb45 : Below W4.heap.size W4 W5 := hbd.trans (hb5.mono (by simp)))
      | (go_at_call 10; refine (HTT.out _).mono ?_; rintro e W6 ⟨rfl, hb6⟩; have hb46 : Below W4.heap.size W4 W6 := hb45.trans (hb6.mono hb45.size))
      | (go_at_call 12; refine (HFW _).mono ?_; rintro e W7 ⟨rfl, hb7⟩; have hb47 : Below W4.heap.size W4 W7 := hb46.trans (hb7.mono hb46.size)))
    all_goals (go_wp2_with fail; go_ret; exact ⟨rfl, HW4.out.trans (hb47.mono (by omega))⟩)

set_option maxRecDepth 100000 in
theorem lifted (os : Os) (started : os.Started) (H : Type) (enc : TypeId × Value → H) :
    ReturnsInHanded {} Try.checked os 3 .any (Rows.wireAppendsSpec.pre6 enc Try.prog Try.f3 Rows.wireAppendsRow.domain false) (Rows.wireAppendsSpec.post enc Try.prog Try.f3 false true false false) := by
  refine returnsInHanded_of_change_sized (C := Try.checked) own started (by kernel_rfl) Try.func3
    (ChangeSpec.witness6 (enc := enc) (C := Try.checked) false ⟨#[], #[.slice none 0 0, .agg #[.int .i64 0, .int .i64 0, .int .u64 0, .slice none 0 0]], []⟩ 8 (by kernel_rfl) (by kernel_rfl) (by kernel_rfl) (by kernel_rfl)) ?_
  intro W base args ds gs before hval0 hW hcnd hsz0 _
  have hval : ∀ (j : Nat) t v, Try.f3.params[j]? = some t → args[j]? = some v → Value.okWide Try.prog W .any base t v := hval0
  have hsz : (DataW.weightsEach Try.prog (Try.f3.params.toList ++ Rows.wireAppendsSpec.plain.varTypes Try.prog) (ds ++ gs)).all (· ≤ reachBytes) = true := hsz0
  clear hsz0
  have hW' := hW
  obtain ⟨p, q, hA0, hV, rfl, hfz, hnd⟩ := hW
  have hA : DataW.TrodAll enc Try.prog W 0 (fun _ => true) true Try.f3.params.toList args.toList ds p := hA0
  rw [Try.params3] at hA hval hsz
  obtain ⟨v0, vs0, d0, ds0, p0, q0, hargs, rfl, rfl, h0, r0⟩ := trodAll_cons hA
  obtain ⟨v1, vs1, d1, ds1, p1, q1, rfl, rfl, rfl, h1, r1⟩ := trodAll_cons r0
  obtain ⟨rfl, rfl, rfl⟩ := trodAll_nil r1
  obtain rfl : args = #[v0, v1] := by cases args; simp_all
  obtain ⟨rfl, rfl⟩ := trodVars_none hV
  have k0 := h0
  have lt0 : ∀ x ∈ p0, x.block < W.heap.size := by obtain ⟨m, hm⟩ := k0; exact DataW.trod_lt m _ _ _ hm
  obtain ⟨a0, len0, cap0, rfl⟩ := okWide_slice Try.underlying22 (hval 0 22 v0 rfl rfl)
  obtain ⟨z0, w0⟩ : ∃ zs, ArgB W a0 len0 cap0 zs := by
    obtain ⟨fuel, hf⟩ := h0
    rcases open_ints Try.underlying22 Try.underlying5 (by kernel_rfl) hf with ⟨hcs, _⟩ | ⟨x, l, c, zs, hcs, _, hl, hm, hz, hx, hcell, hwz⟩
    · simp [Value.cells] at hcs
      obtain ⟨rfl, rfl, rfl⟩ := hcs
      exact ⟨[], argB_nil _⟩
    · simp [Value.cells] at hcs
      obtain ⟨rfl, rfl, rfl⟩ := hcs
      simp only [Prod.mk.injEq] at hx
      obtain ⟨rfl, _⟩ := hx
      simp only [if_true] at hz
      have hreach : cap0 ≤ 140737488351232 := by
        have := sized_slice hsz (j := 0) (t := 22) (e := 5) rfl rfl Try.underlying22
        rw [show Try.prog.bytesOf 5 = 1 by kernel_rfl] at this
        simp only [lits, List.length_map, List.length_take, List.length_drop, reachBytes] at this
        omega
      exact ⟨zs.take len0, argB_of hl hreach hz hcell hwz⟩
  have k1 := h1
  have lt1 : ∀ x ∈ p1, x.block < W.heap.size := by obtain ⟨m, hm⟩ := k1; exact DataW.trod_lt m _ _ _ hm
  obtain ⟨num1, ty1, n1, a1, len1, cap1, z1, rfl, b1, t1, m1, w1⟩ := open_field (hval 1 25 v1 rfl rfl) h1 (fun n hn => by
    have := List.all_eq_true.1 hsz _ (DataW.weights_mem_each (j := 1) (t := 25) (d := d1) rfl rfl n hn)
    simpa using this)
  clear hA0 hval0
  refine (walk a0 len0 cap0 z0 num1 ty1 n1 a1 len1 cap1 z1 W w0 b1 t1 m1 w1).mono fun e W' ⟨he, bel⟩ => ?_
  subst he
  exact ⟨_, rfl, _, _, _, [], _, [], hW', trodAll_mk1 (shut_bool Try.underlying4 _), (trodAll_cons_mk (Below.trod laidOut (by kernel_rfl) (of_decide_eq_true (by kernel_rfl)) k0 bel lt0) (trodAll_cons_mk (Below.trod laidOut (by kernel_rfl) (of_decide_eq_true (by kernel_rfl)) k1 bel lt1) trodAll_mk0)), rfl, bel.frame _, fun h => by cases h⟩

theorem over : Rows.wireAppendsRow.holds Try.pinned (OpenSpec.ofChange Rows.wireAppendsSpec) :=
  OpenClaim.holds_of_wide 3 Try.f3 rfl rfl rfl rfl rfl rfl rfl ⟨rfl, rfl, rfl, rfl, rfl⟩ rfl rfl rfl rfl rfl (by kernel_rfl) Try.func3 (by kernel_rfl)
    (of_decide_eq_true (by kernel_rfl)) (by unfold Func.isWrapper; first | (rw [if_pos (by decide +kernel)]; kernel_rfl) | (rw [if_neg (by decide +kernel)]; exact ⟨rfl, rfl⟩))
    (fun os started H enc _ => lifted os started H enc)

theorem proved : Rows.WireAppendsSaid := over
end Go.Proofs.Ythpaanjphpcfkaa.wireAppends
namespace Go.Proofs.Ythpaanjphpcfkaa
theorem wireAppends_holds : Rows.WireAppendsSaid := wireAppends.proved
end Go.Proofs.Ythpaanjphpcfkaa
