/-
  The walk over the program's Append of a field: what is no field is refused; else the bytes come, behind them the field's, in new memory; nothing that was there is changed.
-/
import Derived.Test.YtpnlbmobnopnoaaGreatDoorM15
import Derived.Test.YtpnlbmobnopnoaaGreatDoorM7
import Derived.Test.YtpnlbmobnopnoaaGreatDoorM13
import Derived.Lib.SlBytesConst
namespace Go.Proofs.YtpnlbmobnopnoaaGreatDoor
set_option linter.unusedVariables false
open Go.ChangeShapes Go.WideShapes Go.ChangeAt Go.RowKit

theorem append_int (a : Option Addr) (len cap : Nat) (zs : List Int) (N : Int) (w : World) (hB : IsB w a len zs) (h0 : 0 ≤ N) (h1 : N ≤ 18446744073709551615) (hl : len ≤ 140737488351232) :
    Calls Tryz.prog 97 #[.slice a len cap, .int .u64 N] w fun e w' =>
      e = .returned (.slice (some ⟨w.heap.size, 0, none⟩) (len + (vint N.toNat).length) (len + (vint N.toNat).length)) ∧ w' = blk w 5 (zs ++ vint N.toNat) := by
  obtain ⟨n, rfl⟩ := Int.eq_ofNat_of_zero_le h0
  have := append_any a len cap zs n w hB (by omega) hl
  simpa using this
theorem isB_nil (w : World) : IsB w none 0 [] := ⟨rfl, by omega, .inl rfl⟩

set_option maxHeartbeats 4000000 in
theorem appendW_ok (a a' : Option Addr) (len cap len' cap' : Nat) (zs d : List Int) (num ty n : Int) (w : World) (hB : IsB w a len zs) (hno : a = none → len = 0 ∧ cap = 0)
    (hB' : IsB w a' len' d) (hno' : a' = none → len' = 0 ∧ cap' = 0) (hn0 : 0 ≤ n) (hn1 : n ≤ 18446744073709551615) (hf : fmd num ty n len' = true) (ht : len + len' + 30 ≤ 281474976710656) :
    Calls Tryz.prog 75 #[.slice a len cap, fv num ty n a' len' cap'] w fun e w' =>
      ∃ v', e = .returned (.tuple #[v', .int .i64 0]) ∧ OwnB w' w.heap.size v' (zs ++ fbytes num ty n d) ∧ Below w.heap.size w w' := by
  have HF : Hid (∀ W, Calls Tryz.prog 96 #[.agg #[.int .i64 num, .int .i64 ty, .int .u64 n, .slice a' len' cap']] W fun e w' => e = .returned (.bool true) ∧ Below W.heap.size W w') := by
    intro W
    have := formedW_any num ty n a' len' cap' W
    rw [hf] at this
    exact this
  have hf2 : 1 ≤ num ∧ num ≤ 536870911 ∧ (((ty = 0 ∨ ty = 1) ∧ len' = 0) ∨ (ty = 5 ∧ len' = 0 ∧ n < 4294967296) ∨ (ty = 2 ∧ n = 0)) := by
    unfold fmd at hf; simpa using hf
  obtain ⟨hm0, hm1, hty⟩ := hf2
  have HR : Hid (IsB w a len zs) := hB
  have HR' : Hid (IsB w a' len' d) := hB'
  have HNO : Hid (a = none → len = 0 ∧ cap = 0) := hno
  have HNO' : Hid (a' = none → len' = 0 ∧ cap' = 0) := hno'
  have hlm : len ≤ 281474976710656 := by omega
  have hlm' : len' ≤ 281474976710656 := by omega
  have ht5 : 0 ≤ ty ∧ ty ≤ 5 := by omega
  clear hf hB hB' hno hno'
  unfold fv
  go_enter Tryz.func75, Tryz.ntmps75
  go_wp2_with fail
  refine (HF.out _).mono ?_
  rintro e w1 ⟨rfl, hb1⟩
  have hz1 := hb1.size
  simp only [World.size_alloc] at hz1
  have c0 : w1.cell? ⟨w.heap.size, 0, none⟩ = some (.int .i64 num) := (hb1.cell (by simp)).trans (by simp)
  have c1 : w1.cell? ⟨w.heap.size, 1, none⟩ = some (.int .i64 ty) := (hb1.cell (by simp)).trans (by simp)
  have c2 : w1.cell? ⟨w.heap.size, 2, none⟩ = some (.int .u64 n) := (hb1.cell (by simp)).trans (by simp)
  have c3 : w1.cell? ⟨w.heap.size, 3, none⟩ = some (.slice a' len' cap') := (hb1.cell (by simp)).trans (by simp)
  have HB1 : Hid (Below w.heap.size w w1) := ((Below.refl _ _).alloc (Nat.le_refl _) _).trans (hb1.mono (by simp))
  clear hb1 HF
  go_wp2_with fail
  refine (append_int none 0 0 [] _ _ (isB_nil _) (by omega) (by omega) (by omega)).mono ?_
  rintro e W1 ⟨rfl, hW1⟩
  rw [Nat.zero_add]
  rw [List.nil_append] at hW1
  have hL := vint_ten (n := (8 * num + ty).toNat) (by omega)
  have hLB := vint_bytes (8 * num + ty).toNat
  have HFB : Hid (fbytes num ty n d = vint (8 * num + ty).toNat ++ (if ty = 0 then vint n.toNat else if ty = 1 then lob n 8 else if ty = 5 then lob n 4 else vint d.length ++ d)) := rfl
  generalize vint (8 * num + ty).toNat = ks at *
  have HI1 : Hid (IsB W1 (some ⟨w1.heap.size, 0, none⟩) ks.length ks) := by
    refine (?_ : IsB W1 (some ⟨w1.heap.size, 0, none⟩) ks.length ks)
    rw [hW1]; exact isB_blk w1 5 ks hLB (by omega)
  have hb11 : Below w1.heap.size w1 W1 := by rw [hW1]; exact blk_below w1 5 ks
  have HB11 : Hid (Below w.heap.size w W1) := HB1.out.trans (hb11.mono (by omega))
  have d1 : W1.cell? ⟨w.heap.size, 1, none⟩ = some (.int .i64 ty) := (hb11.cell (show w.heap.size < w1.heap.size by omega)).trans c1
  have d2 : W1.cell? ⟨w.heap.size, 2, none⟩ = some (.int .u64 n) := (hb11.cell (show w.heap.size < w1.heap.size by omega)).trans c2
  have d3 : W1.cell? ⟨w.heap.size, 3, none⟩ = some (.slice a' len' cap') := (hb11.cell (show w.heap.size < w1.heap.size by omega)).trans c3
  have hz11 := HB11.out.size
  have hz12 : w.heap.size + 1 ≤ W1.heap.size := by have := hb11.size; omega
  have HKB : Hid (∀ z ∈ ks, 0 ≤ z ∧ z ≤ 255) := hLB
  have HDL : Hid (d.length = len') := HR'.out.1
  clear hb11 hW1 HB1 c0 c1 c2 c3 hLB
  obtain ⟨L, hLe⟩ : ∃ L, ks.length = L := ⟨_, rfl⟩
  rw [hLe] at HI1 hL ⊢
  have HLE : Hid (ks.length = L) := hLe
  clear hLe
  rcases hty with ⟨rfl | rfl, rfl⟩ | ⟨rfl, rfl, hn32⟩ | ⟨rfl, rfl⟩
  · have hX := vint_ten (n := n.toNat) (by omega)
    have hXB := vint_bytes n.toNat
    go_wp2_with fail
    refine (append_int _ _ _ _ _ _ HI1.out hn0 hn1 (by omega)).mono ?_
    rintro e W2 ⟨rfl, hW2⟩
    generalize vint n.toNat = xs at *
    obtain ⟨X, hXe⟩ : ∃ X, xs.length = X := ⟨_, rfl⟩
    rw [hXe] at hX ⊢
    have HI2 : Hid (IsB W2 (some ⟨W1.heap.size, 0, none⟩) (L + X) (ks ++ xs)) := by
      refine (?_ : IsB W2 (some ⟨W1.heap.size, 0, none⟩) (L + X) (ks ++ xs))
      rw [hW2, ← hXe, ← HLE.out, ← List.length_append]
      exact isB_blk W1 5 _ (fun z hz => (List.mem_append.1 hz).elim (HKB.out z) (hXB z)) (by rw [List.length_append, HLE.out]; omega)
    have hb12 : Below W1.heap.size W1 W2 := by rw [hW2]; exact blk_below W1 5 _
    have HB2 : Hid (Below w.heap.size w W2) := HB11.out.trans (hb12.mono (by omega))
    have e3 : W2.cell? ⟨w.heap.size, 3, none⟩ = some (.slice a' 0 cap') := (hb12.cell (show w.heap.size < W1.heap.size by omega)).trans d3
    clear hb12 hW2 hXe hXB HI1 HB11 d1 d2 d3
    go_wp2_with fail
    have hb3 : Below w.heap.size w (W2.alloc (.cells #[.slice a len cap, .slice (some ⟨W1.heap.size, 0, none⟩) (L + X) (L + X), .slice a' 0 cap'] 33)) := HB2.out.alloc HB2.out.size _
    have HJ : Hid (joined [⟨a, len, cap, zs⟩, ⟨some ⟨W1.heap.size, 0, none⟩, L + X, L + X, ks ++ xs⟩, ⟨a', 0, cap', d⟩] = zs ++ fbytes num 0 n d) := by
      refine (?_ : joined _ = _)
      rw [HFB.out]
      have hd0 : d = [] := List.eq_nil_of_length_eq_zero HDL.out
      subst hd0
      simp [joined]
    refine (concat_any [⟨a, len, cap, zs⟩, ⟨some ⟨W1.heap.size, 0, none⟩, L + X, L + X, ks ++ xs⟩, ⟨a', 0, cap', d⟩] _ 3 _ rfl (by omega) ?_ ?_ ?_).mono ?_
    · intro k r hk
      rcases k with _ | _ | _ | k
      · simp at hk; subst hk; simp
      · simp at hk; subst hk; simp
      · simp at hk; subst hk; simp
      · simp at hk
    · intro r hr
      simp only [List.mem_cons, List.not_mem_nil, or_false] at hr
      rcases hr with rfl | rfl | rfl
      · exact ⟨isB_old HR.out hb3, HNO.out⟩
      · exact ⟨isB_old HI2.out ((Below.refl _ _).alloc (Nat.le_refl _) _), fun h => by simp at h⟩
      · exact ⟨isB_old HR'.out hb3, fun h => by simpa using HNO'.out h⟩
    · simp only [total, List.map_cons, List.map_nil, List.sum_cons, List.sum_nil]; omega
    rintro e w4 ⟨v4, rfl, ho4, hb4⟩
    rw [HJ.out] at ho4
    have HO4 : Hid (OwnB w4 w.heap.size v4 (zs ++ fbytes num 0 n d)) := own_mono ho4 (by have := hb3.size; simpa using this)
    have HB4 : Hid (Below w.heap.size w w4) := hb3.trans (hb4.mono (by have := hb3.size; simpa using this))
    clear ho4 hb4 hb3 HJ HI2 e3
    go_wp2_with fail
    go_ret2
    exact ⟨_, rfl, HO4.out, HB4.out⟩
  · have hX : (lob n 8).length ≤ 10 := by rw [lob_length]; omega
    have hXB := lob_bytes n 8
    go_wp2_with fail
    refine (append64_any _ _ _ _ _ _ HI1.out hn0 hn1 (by omega)).mono ?_
    rintro e W2 ⟨rfl, hW2⟩
    have hx8 : 8 = (lob n 8).length := by rw [lob_length]
    rw [hx8]
    clear hx8
    generalize lob n 8 = xs at *
    obtain ⟨X, hXe⟩ : ∃ X, xs.length = X := ⟨_, rfl⟩
    rw [hXe] at hX ⊢
    have HI2 : Hid (IsB W2 (some ⟨W1.heap.size, 0, none⟩) (L + X) (ks ++ xs)) := by
      refine (?_ : IsB W2 (some ⟨W1.heap.size, 0, none⟩) (L + X) (ks ++ xs))
      rw [hW2, ← hXe, ← HLE.out, ← List.length_append]
      exact isB_blk W1 5 _ (fun z hz => (List.mem_append.1 hz).elim (HKB.out z) (hXB z)) (by rw [List.length_append, HLE.out]; omega)
    have hb12 : Below W1.heap.size W1 W2 := by rw [hW2]; exact blk_below W1 5 _
    have HB2 : Hid (Below w.heap.size w W2) := HB11.out.trans (hb12.mono (by omega))
    have e3 : W2.cell? ⟨w.heap.size, 3, none⟩ = some (.slice a' 0 cap') := (hb12.cell (show w.heap.size < W1.heap.size by omega)).trans d3
    clear hb12 hW2 hXe hXB HI1 HB11 d1 d2 d3
    go_wp2_with fail
    have hb3 : Below w.heap.size w (W2.alloc (.cells #[.slice a len cap, .slice (some ⟨W1.heap.size, 0, none⟩) (L + X) (L + X), .slice a' 0 cap'] 33)) := HB2.out.alloc HB2.out.size _
    have HJ : Hid (joined [⟨a, len, cap, zs⟩, ⟨some ⟨W1.heap.size, 0, none⟩, L + X, L + X, ks ++ xs⟩, ⟨a', 0, cap', d⟩] = zs ++ fbytes num 1 n d) := by
      refine (?_ : joined _ = _)
      rw [HFB.out]
      have hd0 : d = [] := List.eq_nil_of_length_eq_zero HDL.out
      subst hd0
      simp [joined]
    refine (concat_any [⟨a, len, cap, zs⟩, ⟨some ⟨W1.heap.size, 0, none⟩, L + X, L + X, ks ++ xs⟩, ⟨a', 0, cap', d⟩] _ 3 _ rfl (by omega) ?_ ?_ ?_).mono ?_
    · intro k r hk
      rcases k with _ | _ | _ | k
      · simp at hk; subst hk; simp
      · simp at hk; subst hk; simp
      · simp at hk; subst hk; simp
      · simp at hk
    · intro r hr
      simp only [List.mem_cons, List.not_mem_nil, or_false] at hr
      rcases hr with rfl | rfl | rfl
      · exact ⟨isB_old HR.out hb3, HNO.out⟩
      · exact ⟨isB_old HI2.out ((Below.refl _ _).alloc (Nat.le_refl _) _), fun h => by simp at h⟩
      · exact ⟨isB_old HR'.out hb3, fun h => by simpa using HNO'.out h⟩
    · simp only [total, List.map_cons, List.map_nil, List.sum_cons, List.sum_nil]; omega
    rintro e w4 ⟨v4, rfl, ho4, hb4⟩
    rw [HJ.out] at ho4
    have HO4 : Hid (OwnB w4 w.heap.size v4 (zs ++ fbytes num 1 n d)) := own_mono ho4 (by have := hb3.size; simpa using this)
    have HB4 : Hid (Below w.heap.size w w4) := hb3.trans (hb4.mono (by have := hb3.size; simpa using this))
    clear ho4 hb4 hb3 HJ HI2 e3
    go_wp2_with fail
    go_ret2
    exact ⟨_, rfl, HO4.out, HB4.out⟩
  · have hX : (lob n 4).length ≤ 10 := by rw [lob_length]; omega
    have hXB := lob_bytes n 4
    go_wp2_with fail
    refine (append32_any _ _ _ _ _ _ HI1.out hn0 (by omega) (by omega)).mono ?_
    rintro e W2 ⟨rfl, hW2⟩
    have hx4 : 4 = (lob n 4).length := by rw [lob_length]
    rw [hx4]
    clear hx4
    generalize lob n 4 = xs at *
    obtain ⟨X, hXe⟩ : ∃ X, xs.length = X := ⟨_, rfl⟩
    rw [hXe] at hX ⊢
    have HI2 : Hid (IsB W2 (some ⟨W1.heap.size, 0, none⟩) (L + X) (ks ++ xs)) := by
      refine (?_ : IsB W2 (some ⟨W1.heap.size, 0, none⟩) (L + X) (ks ++ xs))
      rw [hW2, ← hXe, ← HLE.out, ← List.length_append]
      exact isB_blk W1 5 _ (fun z hz => (List.mem_append.1 hz).elim (HKB.out z) (hXB z)) (by rw [List.length_append, HLE.out]; omega)
    have hb12 : Below W1.heap.size W1 W2 := by rw [hW2]; exact blk_below W1 5 _
    have HB2 : Hid (Below w.heap.size w W2) := HB11.out.trans (hb12.mono (by omega))
    have e3 : W2.cell? ⟨w.heap.size, 3, none⟩ = some (.slice a' 0 cap') := (hb12.cell (show w.heap.size < W1.heap.size by omega)).trans d3
    clear hb12 hW2 hXe hXB HI1 HB11 d1 d2 d3
    go_wp2_with fail
    have hb3 : Below w.heap.size w (W2.alloc (.cells #[.slice a len cap, .slice (some ⟨W1.heap.size, 0, none⟩) (L + X) (L + X), .slice a' 0 cap'] 33)) := HB2.out.alloc HB2.out.size _
    have HJ : Hid (joined [⟨a, len, cap, zs⟩, ⟨some ⟨W1.heap.size, 0, none⟩, L + X, L + X, ks ++ xs⟩, ⟨a', 0, cap', d⟩] = zs ++ fbytes num 5 n d) := by
      refine (?_ : joined _ = _)
      rw [HFB.out]
      have hd0 : d = [] := List.eq_nil_of_length_eq_zero HDL.out
      subst hd0
      simp [joined]
    refine (concat_any [⟨a, len, cap, zs⟩, ⟨some ⟨W1.heap.size, 0, none⟩, L + X, L + X, ks ++ xs⟩, ⟨a', 0, cap', d⟩] _ 3 _ rfl (by omega) ?_ ?_ ?_).mono ?_
    · intro k r hk
      rcases k with _ | _ | _ | k
      · simp at hk; subst hk; simp
      · simp at hk; subst hk; simp
      · simp at hk; subst hk; simp
      · simp at hk
    · intro r hr
      simp only [List.mem_cons, List.not_mem_nil, or_false] at hr
      rcases hr with rfl | rfl | rfl
      · exact ⟨isB_old HR.out hb3, HNO.out⟩
      · exact ⟨isB_old HI2.out ((Below.refl _ _).alloc (Nat.le_refl _) _), fun h => by simp at h⟩
      · exact ⟨isB_old HR'.out hb3, fun h => by simpa using HNO'.out h⟩
    · simp only [total, List.map_cons, List.map_nil, List.sum_cons, List.sum_nil]; omega
    rintro e w4 ⟨v4, rfl, ho4, hb4⟩
    rw [HJ.out] at ho4
    have HO4 : Hid (OwnB w4 w.heap.size v4 (zs ++ fbytes num 5 n d)) := own_mono ho4 (by have := hb3.size; simpa using this)
    have HB4 : Hid (Below w.heap.size w w4) := hb3.trans (hb4.mono (by have := hb3.size; simpa using this))
    clear ho4 hb4 hb3 HJ HI2 e3
    go_wp2_with fail
    go_ret2
    exact ⟨_, rfl, HO4.out, HB4.out⟩
  · have hX := vint_ten (n := (len' : Int).toNat) (by omega)
    have hXB := vint_bytes (len' : Int).toNat
    have hdl : (vint d.length) = vint (len' : Int).toNat := by rw [HDL.out]; rfl
    rw [hdl] at HFB
    go_wp2_with fail
    refine (append_int _ _ _ _ _ _ HI1.out (by omega) (by omega) (by omega)).mono ?_
    rintro e W2 ⟨rfl, hW2⟩
    clear hdl
    generalize vint (len' : Int).toNat = xs at *
    obtain ⟨X, hXe⟩ : ∃ X, xs.length = X := ⟨_, rfl⟩
    rw [hXe] at hX ⊢
    have HI2 : Hid (IsB W2 (some ⟨W1.heap.size, 0, none⟩) (L + X) (ks ++ xs)) := by
      refine (?_ : IsB W2 (some ⟨W1.heap.size, 0, none⟩) (L + X) (ks ++ xs))
      rw [hW2, ← hXe, ← HLE.out, ← List.length_append]
      exact isB_blk W1 5 _ (fun z hz => (List.mem_append.1 hz).elim (HKB.out z) (hXB z)) (by rw [List.length_append, HLE.out]; omega)
    have hb12 : Below W1.heap.size W1 W2 := by rw [hW2]; exact blk_below W1 5 _
    have HB2 : Hid (Below w.heap.size w W2) := HB11.out.trans (hb12.mono (by omega))
    have e3 : W2.cell? ⟨w.heap.size, 3, none⟩ = some (.slice a' len' cap') := (hb12.cell (show w.heap.size < W1.heap.size by omega)).trans d3
    clear hb12 hW2 hXe hXB HI1 HB11 d1 d2 d3
    go_wp2_with fail
    have hb3 : Below w.heap.size w (W2.alloc (.cells #[.slice a len cap, .slice (some ⟨W1.heap.size, 0, none⟩) (L + X) (L + X), .slice a' len' cap'] 33)) := HB2.out.alloc HB2.out.size _
    have HJ : Hid (joined [⟨a, len, cap, zs⟩, ⟨some ⟨W1.heap.size, 0, none⟩, L + X, L + X, ks ++ xs⟩, ⟨a', len', cap', d⟩] = zs ++ fbytes num 2 0 d) := by
      refine (?_ : joined _ = _)
      rw [HFB.out]
      simp [joined]
    refine (concat_any [⟨a, len, cap, zs⟩, ⟨some ⟨W1.heap.size, 0, none⟩, L + X, L + X, ks ++ xs⟩, ⟨a', len', cap', d⟩] _ 3 _ rfl (by omega) ?_ ?_ ?_).mono ?_
    · intro k r hk
      rcases k with _ | _ | _ | k
      · simp at hk; subst hk; simp
      · simp at hk; subst hk; simp
      · simp at hk; subst hk; simp
      · simp at hk
    · intro r hr
      simp only [List.mem_cons, List.not_mem_nil, or_false] at hr
      rcases hr with rfl | rfl | rfl
      · exact ⟨isB_old HR.out hb3, HNO.out⟩
      · exact ⟨isB_old HI2.out ((Below.refl _ _).alloc (Nat.le_refl _) _), fun h => by simp at h⟩
      · exact ⟨isB_old HR'.out hb3, fun h => by simpa using HNO'.out h⟩
    · simp only [total, List.map_cons, List.map_nil, List.sum_cons, List.sum_nil]; omega
    rintro e w4 ⟨v4, rfl, ho4, hb4⟩
    rw [HJ.out] at ho4
    have HO4 : Hid (OwnB w4 w.heap.size v4 (zs ++ fbytes num 2 0 d)) := own_mono ho4 (by have := hb3.size; simpa using this)
    have HB4 : Hid (Below w.heap.size w w4) := hb3.trans (hb4.mono (by have := hb3.size; simpa using this))
    clear ho4 hb4 hb3 HJ HI2 e3
    go_wp2_with fail
    go_ret2
    exact ⟨_, rfl, HO4.out, HB4.out⟩
end Go.Proofs.YtpnlbmobnopnoaaGreatDoor
