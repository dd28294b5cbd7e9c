/-
  The law WireBack returns true, and its arguments read as before, for every input of small bulk (the statement of the second form). No other condition.
-/
import Derived.Test.YthpaanjphpcfkaaRows
import Derived.WalkKit
import Derived.ProofKit
import Derived.OpenShut
import Derived.ShutString
import Derived.SizedLaws
import Derived.ChangeOld
import Derived.Below
import Derived.JoinedCond
import Derived.Deep.RegionWith
import Derived.Deep.RegionLaw
import Derived.Deep.DeepCutAuto
import Derived.Deep.RegionHeldLaw
import Derived.Test.YthpaanjphpcfkaaWApp
import Derived.Test.YthpaanjphpcfkaaWTa
import Derived.Test.YthpaanjphpcfkaaUpt
import Derived.Test.YthpaanjphpcfkaaWMath
namespace Go.Proofs.Ythpaanjphpcfkaa.wireBack
open Go.ChangeShapes Go.WideShapes Go.ChangeAt Go.RowKit
open Go.ChangeMaps (open_string shut_string)
set_option linter.unusedVariables false

theorem own : ownKnob Try.prog.godebug = none := by kernel_rfl
theorem laidOut : laidOutB Try.prog = true := by kernel_rfl

theorem sameB_refl (num ty n : Int) (d : List Int) : sameB num ty n num ty n d d = true := by simp [sameB]
theorem fbytes_len (num ty n : Int) (d : List Int) (h0 : 0 ≤ n) (h1 : n ≤ 18446744073709551615) (hm0 : 1 ≤ num) (hm1 : num ≤ 536870911) (ht : 0 ≤ ty ∧ ty ≤ 5) (hd : d.length ≤ 18446744073709551615) : 1 ≤ (fbytes num ty n d).length ∧ (fbytes num ty n d).length ≤ d.length + 20 := by
  unfold fbytes
  have h1 := vint_ten (n := (8 * num + ty).toNat) (by omega)
  have h2 := vint_ten (n := n.toNat) (by omega)
  have h3 := vint_ten (n := d.length) (by omega)
  have h4 := vint_pos (8 * num + ty).toNat
  rw [List.length_append]
  split
  · omega
  · split
    · rw [lob_length]; omega
    · split
      · rw [lob_length]; omega
      · rw [List.length_append]; omega
theorem fbytes_bytes (num ty n : Int) (d : List Int) (hd : ∀ z ∈ d, 0 ≤ z ∧ z ≤ 255) : ∀ z ∈ fbytes num ty n d, 0 ≤ z ∧ z ≤ 255 := by
  unfold fbytes
  intro z hz
  rcases List.mem_append.1 hz with h | h
  · exact vint_bytes _ z h
  · split at h
    · exact vint_bytes _ z h
    · split at h
      · exact lob_bytes _ _ z h
      · split at h
        · exact lob_bytes _ _ z h
        · rcases List.mem_append.1 h with h | h
          · exact vint_bytes _ z h
          · exact hd z h
theorem own_isB2 {w : World} {base : Nat} {v : Value} {xs : List Int} (h : OwnB w base v xs) (hb : ∀ z ∈ xs, 0 ≤ z ∧ z ≤ 255) (hm : xs.length ≤ 281474976710656) :
    ∃ a c, v = .slice a xs.length c ∧ IsB w a xs.length xs ∧ xs.length ≤ c ∧ c ≤ 9223372036854775807 ∧ (a = none → xs.length = 0 ∧ c = 0) := by
  obtain ⟨a, c, hv, hI, hl, hno⟩ := own_isB h hb hm
  refine ⟨a, c, hv, hI, hl, ?_, hno⟩
  obtain ⟨_, h2 | ⟨g, cap, cur, hv2, _, _, _, h4, _⟩⟩ := h
  · have := hno (by rw [hv] at h2; simp at h2; exact h2.1.1)
    omega
  · rw [hv] at hv2
    simp at hv2
    unfold maxLen at h4
    omega
set_option maxHeartbeats 4000000 in
theorem walk (num0 ty0 n0 : Int) (a0 : Option Addr) (len0 cap0 : Nat) (z0 : List Int) (a1 : Option Addr) (len1 cap1 : Nat) (z1 : List Int) (a2 : Int) (w : World) (b0 : -9223372036854775808 ≤ num0 ∧ num0 ≤ 9223372036854775807) (t0 : -9223372036854775808 ≤ ty0 ∧ ty0 ≤ 9223372036854775807) (m0 : 0 ≤ n0 ∧ n0 ≤ 18446744073709551615) (w0 : ArgB w a0 len0 cap0 z0) (u0 : cap0 ≤ 1048576) (w1 : ArgB w a1 len1 cap1 z1) (u1 : cap1 ≤ 1048576) (w2 : (Lit.int .u64 a2).wf = true) :
    Calls Try.prog 5 #[fv num0 ty0 n0 a0 len0 cap0, .slice a1 len1 cap1, .int .u64 a2] w fun e w' => e = .returned (.bool true) ∧ Below w.heap.size w w' := by
  have hlm0 : len0 ≤ 1048576 := by have := w0.2.1; omega
  have hlm1 : len1 ≤ 1048576 := by have := w1.2.1; omega
  obtain ⟨hc0, hc1⟩ := bd_u64 w2
  have HNO0 : Hid (a0 = none → len0 = 0 ∧ cap0 = 0) := w0.none_of
  have HNO1 : Hid (a1 = none → len1 = 0 ∧ cap1 = 0) := w1.none_of
  have HB0 : Hid (IsB w a0 len0 z0) := w0.isB
  have HB1 : Hid (IsB w a1 len1 z1) := w1.isB
  have HL0 : Hid (z0.length = len0) := HB0.out.1
  have HL1 : Hid (z1.length = len1) := HB1.out.1
  have HTT : Hid (∀ (W : World), Calls Try.prog 10 #[fv num0 ty0 n0 a0 len0 cap0] W fun e w' => e = .returned (fv num0 ty0 n0 a0 len0 cap0) ∧ Below W.heap.size W w') := fun W => theirs_any num0 ty0 n0 a0 len0 cap0 W
  have HFR := fun (W : World) => formedR_any num0 ty0 n0 a0 len0 cap0 W
  obtain ⟨f, hf⟩ : ∃ f, fmd num0 ty0 n0 len0 = f := ⟨_, rfl⟩
  rw [hf] at HFR
  cases f with
  | false =>
    clear hf HTT w0 w1 w2
    unfold fv at *
    go_enter Try.func5, Try.ntmps5
    go_wp2_with fail
    refine (awake_any _).mono ?_
    rintro e W1 ⟨rfl, hb1⟩
    have e0 : W1.cell? ⟨w.heap.size, 0, none⟩ = some (.int .i64 num0) := (hb1.cell (by simp)).trans (by simp)
    have e1 : W1.cell? ⟨w.heap.size, 1, none⟩ = some (.int .i64 ty0) := (hb1.cell (by simp)).trans (by simp)
    have e2 : W1.cell? ⟨w.heap.size, 2, none⟩ = some (.int .u64 n0) := (hb1.cell (by simp)).trans (by simp)
    have e3 : W1.cell? ⟨w.heap.size, 3, none⟩ = some (.slice a0 len0 cap0) := (hb1.cell (by simp)).trans (by simp)
    have HW1 : Hid (Below w.heap.size w W1) := ((Below.refl _ _).alloc (Nat.le_refl _) _).trans (hb1.mono (by simp))
    clear hb1
    go_wp2_with fail
    refine (HFR _).mono ?_
    rintro e W2 ⟨rfl, hb2⟩
    have HW2 : Hid (Below w.heap.size w W2) := HW1.out.trans (hb2.mono HW1.out.size)
    clear hb2
    go_wp2_with fail
    refine (awake_any _).mono ?_
    rintro e W3 ⟨rfl, hb3⟩
    have HW3 : Hid (Below w.heap.size w W3) := HW2.out.trans (hb3.mono HW2.out.size)
    clear hb3
    go_wp2_with fail
    go_ret
    exact ⟨rfl, HW3.out⟩
  | true =>
    have hf2 := fmd_spec hf
    have HA : Hid (∀ (W : World), Below w.heap.size w W → Calls Try.prog 9 #[.slice none 0 0, fv num0 ty0 n0 a0 len0 cap0] W fun e w' =>
      ∃ v', e = .returned (.tuple #[v', .int .i64 0]) ∧ OwnB w' W.heap.size v' (fbytes num0 ty0 n0 z0) ∧ Below W.heap.size W w') := by
      intro W h
      have := appendW_ok none a0 0 0 len0 cap0 [] z0 num0 ty0 n0 W (isB_nil _) (fun _ => ⟨rfl, rfl⟩) (isB_old HB0.out h) HNO0.out m0.1 m0.2 hf (by omega)
      simpa using this
    have hbl := fbytes_len num0 ty0 n0 z0 m0.1 m0.2 hf2.1 hf2.2.1 (by omega) (by rw [HL0.out]; omega)
    rw [HL0.out] at hbl
    have HBB : Hid (∀ z ∈ fbytes num0 ty0 n0 z0, 0 ≤ z ∧ z ≤ 255) := fbytes_bytes _ _ _ _ (isB_bytes HB0.out)
    have HTF : Hid (tf (fbytes num0 ty0 n0 z0 ++ z1) = ⟨num0, ty0, n0, z0, ((fbytes num0 ty0 n0 z0).length : Int), 0⟩) := tf_front num0 ty0 n0 z0 z1 (by rw [HL0.out]; exact hf) m0.1 m0.2 (by rw [HL0.out]; omega)
    have HTS : Hid (∀ c, c < (fbytes num0 ty0 n0 z0).length → tf ((fbytes num0 ty0 n0 z0).take c) = tfErr 5) := fun c hc => tf_short num0 ty0 n0 z0 c (by rw [HL0.out]; exact hf) m0.1 m0.2 (by rw [HL0.out]; omega) hc
    have HOU : Hid (∀ (num ty n : Int) (a : Option Addr) (len cap : Nat) (W : World), Calls Try.prog 17 #[.agg #[.int .i64 num, .int .i64 ty, .int .u64 n, .slice a len cap]] W fun e w' => e = .returned (.agg #[.int .i64 num, .int .i64 ty, .int .u64 n, .slice a len cap]) ∧ Below W.heap.size W w') := ours_any
    have HSA : Hid (∀ (num ty n : Int) (a a' : Option Addr) (len cap len' cap' : Nat) (d : List Int) (W : World), IsB W a len d → IsB W a' len' d → Calls Try.prog 16 #[.agg #[.int .i64 num, .int .i64 ty, .int .u64 n, .slice a len cap], .agg #[.int .i64 num, .int .i64 ty, .int .u64 n, .slice a' len' cap']] W fun e w' => e = .returned (.bool true) ∧ Below W.heap.size W w') := by
      intro num ty n a a' len cap len' cap' d W h h'
      have := sameR_any num ty n num ty n a a' len cap len' cap' d d W h h'
      rw [sameB_refl] at this
      exact this
    clear hf w0 w1 w2 hf2
    generalize fbytes num0 ty0 n0 z0 = fb at *
    obtain ⟨L, hL⟩ : ∃ L, fb.length = L := ⟨_, rfl⟩
    rw [hL] at hbl HTF HTS
    have HL : Hid (fb.length = L) := hL
    clear hL
    obtain ⟨hL1, hL2⟩ := hbl
    unfold fv at *
    go_enter Try.func5, Try.ntmps5
    go_wp2_with fail
    refine (awake_any _).mono ?_
    rintro e W1 ⟨rfl, hb1⟩
    have c0 : W1.cell? ⟨w.heap.size, 0, none⟩ = some (.int .i64 num0) := (hb1.cell (by simp)).trans (by simp)
    have c1 : W1.cell? ⟨w.heap.size, 1, none⟩ = some (.int .i64 ty0) := (hb1.cell (by simp)).trans (by simp)
    have c2 : W1.cell? ⟨w.heap.size, 2, none⟩ = some (.int .u64 n0) := (hb1.cell (by simp)).trans (by simp)
    have c3 : W1.cell? ⟨w.heap.size, 3, none⟩ = some (.slice a0 len0 cap0) := (hb1.cell (by simp)).trans (by simp)
    have hz1 := hb1.size
    simp only [World.size_alloc] at hz1
    have HW1 : Hid (Below w.heap.size w W1) := ((Below.refl _ _).alloc (Nat.le_refl _) _).trans (hb1.mono (by simp))
    clear hb1
    go_wp2_with fail
    refine (HFR _).mono ?_
    rintro e W2 ⟨rfl, hb2⟩
    have d0 : W2.cell? ⟨w.heap.size, 0, none⟩ = some (.int .i64 num0) := (hb2.cell (show w.heap.size < W1.heap.size by omega)).trans c0
    have d1 : W2.cell? ⟨w.heap.size, 1, none⟩ = some (.int .i64 ty0) := (hb2.cell (show w.heap.size < W1.heap.size by omega)).trans c1
    have d2 : W2.cell? ⟨w.heap.size, 2, none⟩ = some (.int .u64 n0) := (hb2.cell (show w.heap.size < W1.heap.size by omega)).trans c2
    have d3 : W2.cell? ⟨w.heap.size, 3, none⟩ = some (.slice a0 len0 cap0) := (hb2.cell (show w.heap.size < W1.heap.size by omega)).trans c3
    have HW2 : Hid (Below w.heap.size w W2) := HW1.out.trans (hb2.mono HW1.out.size)
    have hz2 : w.heap.size + 1 ≤ W2.heap.size := by have := hb2.size; omega
    clear hb2 c0 c1 c2 c3 HW1
    go_wp2_with fail
    refine (HTT.out _).mono ?_
    rintro e W3 ⟨rfl, hb3⟩
    have HW3 : Hid (Below w.heap.size w W3) := HW2.out.trans (hb3.mono HW2.out.size)
    go_wp2_with fail
    refine (HA.out _ HW3.out).mono ?_
    rintro e W4 ⟨v4, rfl, ho4, hb4⟩
    obtain ⟨a4, k4, rfl, hI4, hlk4, hkm4, hno4⟩ := own_isB2 ho4 HBB.out (by rw [HL.out]; omega)
    rw [HL.out] at hI4 hlk4 hno4 ⊢
    have HI4 : Hid (IsB W4 a4 L fb) := hI4
    have HNO4 : Hid (a4 = none → L = 0 ∧ k4 = 0) := hno4
    have hb24 : Below W2.heap.size W2 W4 := hb3.trans (hb4.mono hb3.size)
    have HW4 : Hid (Below w.heap.size w W4) := HW2.out.trans (hb24.mono HW2.out.size)
    have e0 : W4.cell? ⟨w.heap.size, 0, none⟩ = some (.int .i64 num0) := (hb24.cell (show w.heap.size < W2.heap.size by omega)).trans d0
    have e1 : W4.cell? ⟨w.heap.size, 1, none⟩ = some (.int .i64 ty0) := (hb24.cell (show w.heap.size < W2.heap.size by omega)).trans d1
    have e2 : W4.cell? ⟨w.heap.size, 2, none⟩ = some (.int .u64 n0) := (hb24.cell (show w.heap.size < W2.heap.size by omega)).trans d2
    have e3 : W4.cell? ⟨w.heap.size, 3, none⟩ = some (.slice a0 len0 cap0) := (hb24.cell (show w.heap.size < W2.heap.size by omega)).trans d3
    have hz4 : w.heap.size + 1 ≤ W4.heap.size := by have := hb24.size; omega
    have HI1 : Hid (IsB W4 a1 len1 z1) := isB_old HB1.out HW4.out
    clear hb3 hb4 hb24 ho4 hI4 hno4 d0 d1 d2 d3 HW3 HA HTT HFR HW2
    have hne : ((L : Int) == 0) = false := by simp; omega
    have HO : Hid (OwnE (W4.alloc (.cells #[] 5)) W4.heap.size (.slice (some ⟨W4.heap.size, 0, none⟩) 0 0) []) := .inr ⟨rfl, _, rfl⟩
    have HI4b : Hid (IsB (W4.alloc (.cells #[] 5)) a4 L fb) := isB_old HI4.out ((Below.refl _ _).alloc (Nat.le_refl _) _)
    have HIA : Hid (∀ W, Below W4.heap.size W4 W → IsB W a1 len1 z1) := fun W h => isB_old HI1.out h
    go_wp2_with (first
      | (at_builtin; refine wpE_append rfl (.tmp 37) (.tmp 38) rfl W4.heap.size (.slice (some ⟨W4.heap.size, 0, none⟩) 0 0) [] rfl HO.out a4 L k4 fb rfl HI4b.out HNO4.out (by simp; omega) (by simp) ?_; intro v5 W5 hown5 hb5; simp only [List.nil_append] at hown5; have hb45 : Below W4.heap.size W4 W5 := ((Below.refl _ _).alloc (Nat.le_refl _) _).trans (hb5))
      | (at_builtin; refine wpE_append rfl (.tmp 39) (.tmp 40) rfl W4.heap.size v5 fb rfl hown5 a1 len1 cap1 z1 rfl (HIA.out _ hb45) HNO1.out (by have := HL.out; omega) hb45.size ?_; intro v6 W6 hown6 hb6))
    have hb46 : Below W4.heap.size W4 W6 := hb45.trans hb6
    have hOB := ownE_full hown6 (by rw [List.length_append, HL.out]; omega)
    obtain ⟨a6, k6, rfl, hI6, hlk6, hkm6, hno6⟩ := own_isB2 hOB (by intro z hz; rcases List.mem_append.1 hz with h | h; exact HBB.out z h; exact isB_bytes HB1.out z h) (by rw [List.length_append, HL.out, HL1.out]; omega)
    have HT6 : Calls Try.prog 14 #[.slice a6 (fb ++ z1).length k6] W6 fun e w' => ∃ a len cap, e = .returned (.tuple #[.agg #[.int .i64 num0, .int .i64 ty0, .int .u64 n0, .slice a len cap], .int .i64 L, .int .i64 0]) ∧ NewB w' W6.heap.size a len z0 ∧ (a = none → len = 0 ∧ cap = 0) ∧ Below W6.heap.size W6 w' := by
      have := takeW_any a6 _ k6 (fb ++ z1) W6 hI6 hlk6 (by rw [List.length_append, HL.out, HL1.out]; omega) hkm6
      rw [HTF.out] at this
      exact this
    refine HT6.mono ?_
    rintro e W7 ⟨a7, len7, cap7, rfl, hn7, hno7, hb7⟩
    have hb47 : Below W4.heap.size W4 W7 := hb46.trans (hb7.mono hb46.size)
    have HB47 : Hid (Below W4.heap.size W4 W7) := hb47
    have HI7 : Hid (IsB W7 a7 len7 z0) := hn7.isB
    clear HT6 hb45 hb46 hb5 hb6 hb7 hown5 hown6 hOB hI6 hlk6 hkm6 hno6 hn7 hno7 HO HI4b HIA hb47
    obtain ⟨c, hmc⟩ := Int.eq_ofNat_of_zero_le (Int.emod_nonneg a2 (show (L : Int) ≠ 0 by omega))
    have hcL : c < L := by
      have := Int.emod_lt_of_pos a2 (show (0 : Int) < L by omega)
      rw [hmc] at this; omega
    go_wp2_with fail
    generalize hV : W7.alloc (.cells #[.int .i64 num0, .int .i64 ty0, .int .u64 n0, .slice a7 len7 cap7] 30) = V
    have hb7V : Below W7.heap.size W7 V := by rw [← hV]; exact (Below.refl _ _).alloc (Nat.le_refl _) _
    have hzV : V.heap.size = W7.heap.size + 1 := by rw [← hV]; simp
    have hb4V : Below W4.heap.size W4 V := HB47.out.trans (hb7V.mono HB47.out.size)
    have HT8 : Calls Try.prog 14 #[.slice a4 c k4] V fun e w' => ∃ a len cap, e = .returned (.tuple #[.agg #[.int .i64 0, .int .i64 0, .int .u64 0, .slice a len cap], .int .i64 0, .int .i64 5]) ∧ NewB w' V.heap.size a len [] ∧ (a = none → len = 0 ∧ cap = 0) ∧ Below V.heap.size V w' := by
      have := takeW_any a4 c k4 (fb.take c) V (isB_take (isB_old HI4.out hb4V) c (by omega)) (by omega) (by omega) hkm4
      rw [HTS.out c hcL] at this
      exact this
    refine HT8.mono ?_
    rintro e W8 ⟨a8, len8, cap8, rfl, _, _, hb8⟩
    have hb48 : Below W4.heap.size W4 W8 := hb4V.trans (hb8.mono hb4V.size)
    have HW8 : Hid (Below w.heap.size w W8) := HW4.out.trans (hb48.mono HW4.out.size)
    have HJ7 : Hid (IsB W8 a7 len7 z0) := isB_old (isB_old HI7.out hb7V) hb8
    have HJ0 : Hid (IsB W8 a0 len0 z0) := isB_old HB0.out HW8.out
    have hz8 := hb8.size
    have hz48 := hb48.size
    have f0 : W8.cell? ⟨w.heap.size, 0, none⟩ = some (.int .i64 num0) := (hb48.cell (show w.heap.size < W4.heap.size by omega)).trans e0
    have f1 : W8.cell? ⟨w.heap.size, 1, none⟩ = some (.int .i64 ty0) := (hb48.cell (show w.heap.size < W4.heap.size by omega)).trans e1
    have f2 : W8.cell? ⟨w.heap.size, 2, none⟩ = some (.int .u64 n0) := (hb48.cell (show w.heap.size < W4.heap.size by omega)).trans e2
    have f3 : W8.cell? ⟨w.heap.size, 3, none⟩ = some (.slice a0 len0 cap0) := (hb48.cell (show w.heap.size < W4.heap.size by omega)).trans e3
    have g0 : W8.cell? ⟨W7.heap.size, 0, none⟩ = some (.int .i64 num0) := (hb8.cell (show W7.heap.size < V.heap.size by omega)).trans (by rw [← hV]; simp)
    have g1 : W8.cell? ⟨W7.heap.size, 1, none⟩ = some (.int .i64 ty0) := (hb8.cell (show W7.heap.size < V.heap.size by omega)).trans (by rw [← hV]; simp)
    have g2 : W8.cell? ⟨W7.heap.size, 2, none⟩ = some (.int .u64 n0) := (hb8.cell (show W7.heap.size < V.heap.size by omega)).trans (by rw [← hV]; simp)
    have g3 : W8.cell? ⟨W7.heap.size, 3, none⟩ = some (.slice a7 len7 cap7) := (hb8.cell (show W7.heap.size < V.heap.size by omega)).trans (by rw [← hV]; simp)
    clear hV hb7V hb4V hb48 hb8 HT8 HI7 HI4 HNO4 HW4 e0 e1 e2 e3 HB47 HTF HTS
    go_wp2_with fail
    generalize hY : W8.alloc (.cells #[.int .i64 0, .int .i64 0, .int .u64 0, .slice a8 len8 cap8] 30) = Y
    have hb8Y : Below W8.heap.size W8 Y := by rw [← hY]; exact (Below.refl _ _).alloc (Nat.le_refl _) _
    have HWY : Hid (Below w.heap.size w Y) := HW8.out.trans (hb8Y.mono HW8.out.size)
    have hzY := hb8Y.size
    have HK7 : Hid (IsB Y a7 len7 z0) := isB_old HJ7.out hb8Y
    have HK0 : Hid (IsB Y a0 len0 z0) := isB_old HJ0.out hb8Y
    have hd0 : ∀ W, Below Y.heap.size Y W → W.cell? ⟨w.heap.size, 0, none⟩ = some (.int .i64 num0) := fun W h => (h.cell (show w.heap.size < Y.heap.size by omega)).trans ((hb8Y.cell (show w.heap.size < W8.heap.size by omega)).trans f0)
    have hd1 : ∀ W, Below Y.heap.size Y W → W.cell? ⟨w.heap.size, 1, none⟩ = some (.int .i64 ty0) := fun W h => (h.cell (show w.heap.size < Y.heap.size by omega)).trans ((hb8Y.cell (show w.heap.size < W8.heap.size by omega)).trans f1)
    have hd2 : ∀ W, Below Y.heap.size Y W → W.cell? ⟨w.heap.size, 2, none⟩ = some (.int .u64 n0) := fun W h => (h.cell (show w.heap.size < Y.heap.size by omega)).trans ((hb8Y.cell (show w.heap.size < W8.heap.size by omega)).trans f2)
    have hd3 : ∀ W, Below Y.heap.size Y W → W.cell? ⟨w.heap.size, 3, none⟩ = some (.slice a0 len0 cap0) := fun W h => (h.cell (show w.heap.size < Y.heap.size by omega)).trans ((hb8Y.cell (show w.heap.size < W8.heap.size by omega)).trans f3)
    have he0 : ∀ W, Below Y.heap.size Y W → W.cell? ⟨W7.heap.size, 0, none⟩ = some (.int .i64 num0) := fun W h => (h.cell (show W7.heap.size < Y.heap.size by omega)).trans ((hb8Y.cell (show W7.heap.size < W8.heap.size by omega)).trans g0)
    have he1 : ∀ W, Below Y.heap.size Y W → W.cell? ⟨W7.heap.size, 1, none⟩ = some (.int .i64 ty0) := fun W h => (h.cell (show W7.heap.size < Y.heap.size by omega)).trans ((hb8Y.cell (show W7.heap.size < W8.heap.size by omega)).trans g1)
    have he2 : ∀ W, Below Y.heap.size Y W → W.cell? ⟨W7.heap.size, 2, none⟩ = some (.int .u64 n0) := fun W h => (h.cell (show W7.heap.size < Y.heap.size by omega)).trans ((hb8Y.cell (show W7.heap.size < W8.heap.size by omega)).trans g2)
    have he3 : ∀ W, Below Y.heap.size Y W → W.cell? ⟨W7.heap.size, 3, none⟩ = some (.slice a7 len7 cap7) := fun W h => (h.cell (show W7.heap.size < Y.heap.size by omega)).trans ((hb8Y.cell (show W7.heap.size < W8.heap.size by omega)).trans g3)
    have hbd : Below Y.heap.size Y Y.drew := (Below.refl _ _).drew
    clear hY hb8Y f0 f1 f2 f3 g0 g1 g2 g3 HJ7 HJ0 HW8
    go_region_held_law (fun W' => Below Y.heap.size Y W') (first | exact hbd | assumption) (first
      | (go_at_call 17; refine (HOU.out _ _ _ _ _ _ _).mono ?_; rintro e X6 ⟨rfl, hb6⟩; have hb46 : Below Y.heap.size Y X6 := hbd.trans (hb6.mono (by simp)))
      | (go_at_call 16; refine (HSA.out _ _ _ _ _ _ _ _ _ z0 _ (isB_old HK7.out hb46) (isB_old HK0.out hb46)).mono ?_; rintro e X7 ⟨rfl, hb7⟩; have hb47 : Below Y.heap.size Y X7 := hb46.trans (hb7.mono hb46.size)))
    all_goals (go_wp2_with fail; go_ret; exact ⟨rfl, HWY.out.trans (hb47.mono HWY.out.size)⟩)

theorem contract (H : Type) (enc : TypeId × Value → H) (W : World) (base : Nat) (args : Array Value) (ds gs : List (DataW H)) (before : List MemPlace)
    (hval0 : ∀ (j : Nat) t v, Try.f5.params[j]? = some t → args[j]? = some v → Value.okWide Try.prog W .any base t v)
    (hW : DataW.Whole enc Try.prog Try.f5.params.toList Rows.wireBackSpec.vars false W args.toList ds gs before) (hk : Rows.uptoSmall H (ds ++ gs) = true) :
    Calls Try.prog 5 args W fun e W' => ∃ v, e = .returned v ∧ Rows.wireBackSpec.post enc Try.prog Try.f5 false true false false W args v W' := by
  have hval : ∀ (j : Nat) t v, Try.f5.params[j]? = some t → args[j]? = some v → Value.okWide Try.prog W .any base t v := hval0
  have hu := bulk_bound hk
  clear hk
  have hW' := hW
  obtain ⟨p, q, hA0, hV, rfl, hfz, hnd⟩ := hW
  have hA : DataW.TrodAll enc Try.prog W 0 (fun _ => true) true Try.f5.params.toList args.toList ds p := hA0
  rw [Try.params5] at hA hval
  obtain ⟨v0, vs0, d0, ds0, p0, q0, hargs, rfl, rfl, h0, r0⟩ := trodAll_cons hA
  obtain ⟨v1, vs1, d1, ds1, p1, q1, rfl, rfl, rfl, h1, r1⟩ := trodAll_cons r0
  obtain ⟨v2, vs2, d2, ds2, p2, q2, rfl, rfl, rfl, h2, r2⟩ := trodAll_cons r1
  obtain ⟨rfl, rfl, rfl⟩ := trodAll_nil r2
  obtain rfl : args = #[v0, v1, v2] := by cases args; simp_all
  obtain ⟨rfl, rfl⟩ := trodVars_none hV
  have k0 := h0
  have lt0 : ∀ x ∈ p0, x.block < W.heap.size := by obtain ⟨m, hm⟩ := k0; exact DataW.trod_lt m _ _ _ hm
  have hu0 : Rows.uptoBulk d0 ≤ 1048576 := Nat.le_trans (bulk_part (by simp)) hu
  obtain ⟨num0, ty0, n0, a0, len0, cap0, z0, rfl, b0, t0, m0, w0, u0⟩ := open_fieldU (hval 0 25 v0 rfl rfl) h0 hu0
  have k1 := h1
  have lt1 : ∀ x ∈ p1, x.block < W.heap.size := by obtain ⟨m, hm⟩ := k1; exact DataW.trod_lt m _ _ _ hm
  have hu1 : Rows.uptoBulk d1 ≤ 1048576 := Nat.le_trans (bulk_part (by simp)) hu
  obtain ⟨a1, len1, cap1, z1, rfl, w1, u1⟩ := open_bytesU (hval 1 22 v1 rfl rfl) h1 hu1
  have k2 := h2
  have lt2 : ∀ x ∈ p2, x.block < W.heap.size := by obtain ⟨m, hm⟩ := k2; exact DataW.trod_lt m _ _ _ hm
  obtain ⟨a2, rfl, _, _, w2⟩ := open_int Try.underlying43 (hval 2 43 v2 rfl rfl) h2
  clear hA0 hval0
  refine (walk num0 ty0 n0 a0 len0 cap0 z0 a1 len1 cap1 z1 a2 W b0 t0 m0 w0 u0 w1 u1 w2).mono fun e W' ⟨he, bel⟩ => ?_
  subst he
  exact ⟨_, rfl, _, _, _, [], _, [], hW', trodAll_mk1 (shut_bool Try.underlying4 _), (trodAll_cons_mk (Below.trod laidOut (by kernel_rfl) (of_decide_eq_true (by kernel_rfl)) k0 bel lt0) (trodAll_cons_mk (Below.trod laidOut (by kernel_rfl) (of_decide_eq_true (by kernel_rfl)) k1 bel lt1) (trodAll_cons_mk (Below.trod laidOut (by kernel_rfl) (of_decide_eq_true (by kernel_rfl)) k2 bel lt2) trodAll_mk0))), rfl, bel.frame _, fun h => by cases h⟩

set_option maxRecDepth 100000 in
theorem lifted (os : Os) (started : os.Started) (H : Type) (enc : TypeId × Value → H) (F : Stop.Interp) :
    ReturnsInHanded {} Try.checked os 5 .any ((Rows.OpenSpec.upto Rows.wireBackSpec).pre6 enc Try.prog Try.f5 Rows.wireBackUptoRow.domain false) (((Rows.OpenSpec.upto Rows.wireBackSpec).at F).post enc Try.prog Try.f5 false true false false) := by
  refine returnsInHanded_of_cond (C := Try.checked) (s := Rows.OpenSpec.upto Rows.wireBackSpec) (k := Rows.uptoSmall) rfl own started (by kernel_rfl) Try.func5
    (OpenSpec.witness (enc := enc) (C := Try.checked) (s := Rows.OpenSpec.upto Rows.wireBackSpec) (k := Rows.uptoSmall) rfl false ⟨#[], #[.agg #[.int .i64 0, .int .i64 0, .int .u64 0, .slice none 0 0], .slice none 0 0, .int .u64 0], []⟩ 8 (by kernel_rfl) (by kernel_rfl) (by kernel_rfl)
      (x := ([.agg [.lit (.int .i64 0), .lit (.int .i64 0), .lit (.int .u64 0), .nil], .nil, .lit (.int .u64 0)], [], [])) (by kernel_rfl) rfl (by kernel_rfl)) ?_
  intro W base args ds gs before hval hW _ hk _
  exact contract H enc W base args ds gs before hval hW hk

theorem over : Rows.wireBackUptoRow.holds Try.pinned (Rows.OpenSpec.upto Rows.wireBackSpec) :=
  OpenClaim.holds_of_cond 5 Try.f5 rfl rfl rfl rfl rfl rfl rfl ⟨rfl, rfl, rfl, rfl, rfl⟩ rfl rfl rfl rfl rfl (by kernel_rfl) Try.func5 (by kernel_rfl)
    (of_decide_eq_true (by kernel_rfl)) (by unfold Func.isWrapper; first | (rw [if_pos (by decide +kernel)]; kernel_rfl) | (rw [if_neg (by decide +kernel)]; exact ⟨rfl, rfl⟩))
    (fun os started H enc _ F => lifted os started H enc F)

theorem proved : Rows.WireBackUptoSaid := over
end Go.Proofs.Ythpaanjphpcfkaa.wireBack
namespace Go.Proofs.Ythpaanjphpcfkaa
theorem wireBackUpto_holds : Rows.WireBackUptoSaid := wireBack.proved
end Go.Proofs.Ythpaanjphpcfkaa
