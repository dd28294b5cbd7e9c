/-
  The walk over the document's own Varint and Size: to a slice that the call itself has made the shortest varint is appended; what was there before is left.
  The walk over the document's own Low: so many bytes of a number, the lowest first, in new memory; what was there before is left.
  The walk over the document's own Bytes: the bytes of a field, in new memory; nothing that was there is changed.
-/
import Derived.Test.YtfhmombnipfimabGreatDoorM3
import Derived.Test.YtfhmombnipfimabGreatDoorM2
import Derived.Test.YtfhmombnipfimabGreatDoorM11
import Derived.Test.YtfhmombnipfimabGreatDoorM9
import Derived.Deep.RegionLaw
namespace Go.Proofs.YtfhmombnipfimabGreatDoor
set_option linter.unusedVariables false
open Go.ChangeShapes Go.WideShapes Go.ChangeAt Go.RowKit

set_option maxHeartbeats 1000000 in
theorem varintR_any (v : Value) (base : Nat) (xs : List Int) (n : Nat) (w : World) (hO : OwnE w base v xs) (hn : n ≤ 18446744073709551615) (hl : xs.length ≤ 140737488351300) (hb : base ≤ w.heap.size) :
    Calls Tryz.prog 12 #[v, .int .u64 n] w fun e w' =>
      ∃ v', e = .returned v' ∧ OwnB w' base v' (xs ++ vint n) ∧ Below base w w' := by
  have HO : Hid (OwnE w base v xs) := hO
  have HN : Hid (n ≤ 18446744073709551615) := hn
  have hle := vint_ten hn
  have HLn : Hid ((vint n).length ≤ 10) := hle
  clear hO hn hle
  go_enter Tryz.func12, Tryz.ntmps12
  go_wp2_with fail
  go_loopw [0, 1] (fun b x wr => ∃ (d : List Int) (m : Nat) (M : Int), M = (m : Int) ∧ vint n = d ++ vint m ∧ m ≤ 18446744073709551615 ∧ x = .int .u64 M ∧ OwnE wr base b (xs ++ d) ∧ Below base w wr) (fun _ x _ => (intOf x).toNat)
  case atStart => exact ⟨[], n, n, rfl, rfl, HN.out, rfl, by simpa using HO.out, Below.refl _ _⟩
  case round =>
    obtain ⟨d, m, M, hM, hv, hm, rfl, hown, hbel⟩ := hrel
    have hmI : 0 ≤ M ∧ M ≤ 18446744073709551615 := by omega
    have HM : Hid (m ≤ 18446744073709551615) := hm
    have HMM : Hid (M = (m : Int)) := hM
    have hor : bits .or .u8 (M % 256) 128 = M % 128 + 128 := or128 M hmI.1
    have HV : Hid (vint n = d ++ vint m) := hv
    have hdl : (xs ++ d).length ≤ 140737488351310 := by
      have := HLn.out; rw [hv, List.length_append] at this; rw [List.length_append]; omega
    have hbs : base ≤ wr.heap.size := by have := hbel.size; omega
    have HOW : Hid (OwnE wr base u0 (xs ++ d)) := hown
    have HBE : Hid (Below base w wr) := hbel
    have hM1 : 0 ≤ M % 128 := by omega
    have hM2 : M % 128 + 128 ≤ 255 := by omega
    clear hm hM hv hown hbel
    by_cases h : 128 ≤ M
    · have HE : Hid (vint m = ((m % 128 + 128 : Nat) : Int) :: vint (m / 128)) := vint_big (by have := HMM.out; omega)
      have e2 : Hid (((m % 128 + 128 : Nat) : Int) = M % 128 + 128) := by
        refine (?_ : ((m % 128 + 128 : Nat) : Int) = M % 128 + 128)
        rw [HMM.out]; omega
      go_wp2_with (at_builtin; refine wpE_append rfl (.tmp 7) (.tmp 11) rfl base u0 (xs ++ d) rfl (ownE_alloc HOW.out _) (some ⟨wr.heap.size, 0, none⟩) 1 1 [M % 128 + 128] rfl (isB_one wr _ (by omega) (by omega)) (by simp) (by omega) (by simp; omega) ?_; intro v2 w2 hown2 hg2)
      go_roundw
      case rel =>
        refine ⟨d ++ [M % 128 + 128], m / 128, M / 128, ?_, ?_, ?_, rfl, ?_, ?_⟩
        · have := HMM.out; omega
        · rw [HV.out, HE.out, List.append_assoc, List.singleton_append, e2.out]
        · have := HM.out; omega
        · rw [← List.append_assoc]; exact hown2
        · exact (HBE.out.alloc hbs _).trans hg2
      case measure => simp [intOf]; omega
    · have HE : Hid (vint m = [(m : Int)]) := vint_small (by have := HMM.out; omega)
      have hM3 : M ≤ 255 := by omega
      go_wp2_with (at_builtin; refine wpE_append rfl (.tmp 15) (.tmp 18) rfl base u0 (xs ++ d) rfl (ownE_alloc HOW.out _) (some ⟨wr.heap.size, 0, none⟩) 1 1 [M] rfl (isB_one wr _ (by omega) (by omega)) (by simp) (by omega) (by simp; omega) ?_; intro v2 w2 hown2 hg2)
      go_ret
      refine ⟨v2, rfl, ?_, (HBE.out.alloc hbs _).trans hg2⟩
      rw [HV.out, HE.out, ← HMM.out, ← List.append_assoc]; exact ownE_full hown2 (by simp only [List.length_append, List.length_singleton]; omega)
theorem varintR_int (v : Value) (base : Nat) (xs : List Int) (N : Int) (w : World) (hO : OwnE w base v xs) (h0 : 0 ≤ N) (h1 : N ≤ 18446744073709551615) (hl : xs.length ≤ 140737488351300) (hb : base ≤ w.heap.size) :
    Calls Tryz.prog 12 #[v, .int .u64 N] w fun e w' =>
      ∃ v', e = .returned v' ∧ OwnB w' base v' (xs ++ vint N.toNat) ∧ Below base w w' := by
  obtain ⟨n, rfl⟩ := Int.eq_ofNat_of_zero_le h0
  have := varintR_any v base xs n w hO (by omega) hl hb
  simpa using this
end Go.Proofs.YtfhmombnipfimabGreatDoor
namespace Go.Proofs.YtfhmombnipfimabGreatDoor
set_option linter.unusedVariables false
open Go.ChangeShapes Go.WideShapes Go.ChangeAt Go.RowKit
set_option maxHeartbeats 1000000 in
theorem lowR_any (n : Int) (s : Nat) (w : World) (hn0 : 0 ≤ n) (hn1 : n ≤ 18446744073709551615) (hs : s ≤ 8) :
    Calls Tryz.prog 25 #[.int .u64 n, .int .i64 s] w fun e w' =>
      ∃ v', e = .returned v' ∧ OwnB w' w.heap.size v' (lob n s) ∧ Below w.heap.size w w' := by
  go_enter Tryz.func25, Tryz.ntmps25
  go_wp2_with fail
  go_loopw [5, 8] (fun v i wr => ∃ k : Nat, k ≤ s ∧ i = .int .i64 k ∧ OwnB wr w.heap.size v (lob n k) ∧ Below w.heap.size w wr) (fun _ i _ => s - (intOf i).toNat)
  case atStart => exact ⟨0, by omega, rfl, own_nil _ _, Below.refl _ _⟩
  case round =>
    obtain ⟨k, hk, rfl, hown, hbel⟩ := hrel
    have HO : Hid (OwnB wr w.heap.size u5 (lob n k)) := hown
    have HB : Hid (Below w.heap.size w wr) := hbel
    have hsz := hbel.size
    have hll := lob_length n k
    have HLL : Hid ((lob n k).length = k) := hll
    clear hown hbel hll
    by_cases hlt : k < s
    · have hz0 : 0 ≤ n / 2 ^ (8 * k) % 256 := by omega
      have hz1 : n / 2 ^ (8 * k) % 256 ≤ 255 := by omega
      go_wp2_with (at_builtin; (refine wpB_append rfl (.tmp 11) (.tmp 18) rfl w.heap.size u5 (lob n k) rfl (own_alloc HO.out _) (some ⟨wr.heap.size, 0, none⟩) 1 1 [n / 2 ^ (8 * k) % 256] rfl (isB_one wr _ (by omega) (by omega)) (by simp) (by have := HLL.out; omega) (by simp; omega) ?_); intro v2 w2 hown2 hg2)
      go_roundw
      case rel => exact ⟨k + 1, by omega, by go_num, hown2, (HB.out.alloc hsz _).grown hg2 (by simp; omega) (own_blockB HO.out)⟩
      case measure => simp [intOf]; omega
    · obtain rfl : k = s := by omega
      go_wp2_with fail
      go_ret
      exact ⟨_, rfl, HO.out, HB.out⟩
end Go.Proofs.YtfhmombnipfimabGreatDoor
namespace Go.Proofs.YtfhmombnipfimabGreatDoor
set_option linter.unusedVariables false
open Go.ChangeShapes Go.WideShapes Go.ChangeAt Go.RowKit

set_option maxRecDepth 20000 in
set_option maxHeartbeats 2000000 in
theorem bytesR_any (num ty n : Int) (a : Option Addr) (len cap : Nat) (d : List Int) (w : World) (hB : IsB w a len d) (hn0 : 0 ≤ n) (hn1 : n ≤ 18446744073709551615)
    (hm0 : 1 ≤ num) (hm1 : num ≤ 536870911) (ht : ty = 0 ∨ ty = 1 ∨ ty = 5 ∨ ty = 2) (hl : len ≤ 140737488351232) (hno : a = none → len = 0 ∧ cap = 0) :
    Calls Tryz.prog 13 #[fv num ty n a len cap] w fun e w' => ∃ v', e = .returned v' ∧ OwnB w' w.heap.size v' (fbytes num ty n d) ∧ Below w.heap.size w w' := by
  have HT : Hid (0 ≤ ty ∧ ty ≤ 5) := by
    refine (?_ : 0 ≤ ty ∧ ty ≤ 5); omega
  have HB : Hid (IsB w a len d) := hB
  have HNO : Hid (a = none → len = 0 ∧ cap = 0) := hno
  have ht5 : 0 ≤ ty ∧ ty ≤ 5 := HT.out
  clear hB hno
  unfold fv
  go_enter Tryz.func13, Tryz.ntmps13
  go_wp2_with fail
  refine (varintR_int _ (w.heap.size + 1) [] _ _ (.inl (own_nil _ _)) (by omega) (by omega) (by simp) (by simp)).mono ?_
  rintro e w1 ⟨v1, rfl, ho1, hb1⟩
  rw [List.nil_append] at ho1
  have hz1 := hb1.size
  simp only [World.size_alloc] at hz1
  have c1 : w1.cell? ⟨w.heap.size, 1, none⟩ = some (.int .i64 ty) := (hb1.cell (by simp)).trans (by simp)
  have c2 : w1.cell? ⟨w.heap.size, 2, none⟩ = some (.int .u64 n) := (hb1.cell (by simp)).trans (by simp)
  have c3 : w1.cell? ⟨w.heap.size, 3, none⟩ = some (.slice a len cap) := (hb1.cell (by simp)).trans (by simp)
  have HB1 : Hid (Below w.heap.size w w1) := ((Below.refl _ _).alloc (Nat.le_refl _) _).trans (hb1.mono (by omega))
  have HO1 : Hid (OwnB w1 (w.heap.size + 1) v1 (vint (8 * num + ty).toNat)) := ho1
  have HK : Hid ((vint (8 * num + ty).toNat).length ≤ 10) := vint_ten (by omega)
  clear ho1 hb1
  rcases ht with rfl | rfl | rfl | rfl
  · go_wp2_with fail
    refine (varintR_int _ (w.heap.size + 1) _ _ _ (.inl HO1.out) hn0 hn1 (by have := HK.out; omega) (by omega)).mono ?_
    rintro e w2 ⟨v2, rfl, ho2, hb2⟩
    have HO2 : Hid (OwnB w2 w.heap.size v2 (fbytes num 0 n d)) := own_mono ho2 (by omega)
    have HB2 : Hid (Below w.heap.size w w2) := HB1.out.trans (hb2.mono (by omega))
    clear ho2 hb2
    go_wp2_with fail
    go_ret
    exact ⟨_, rfl, HO2.out, HB2.out⟩
  · go_wp2_with fail
    refine (lowR_any n 8 _ hn0 hn1 (by omega)).mono ?_
    rintro e w2 ⟨v2, rfl, ho2, hb2⟩
    obtain ⟨a2, c2, rfl, hI2, _, hno2⟩ := own_isB ho2 (lob_bytes _ _) (by rw [lob_length]; omega)
    rw [lob_length] at hI2 hno2 ⊢
    have HI2 : Hid (IsB w2 a2 8 (lob n 8)) := hI2
    have HN2 : Hid (a2 = none → 8 = 0 ∧ c2 = 0) := hno2
    have HO2 : Hid (OwnB w2 (w.heap.size + 1) v1 (vint (8 * num + 1).toNat)) := own_old HO1.out hb2
    have hz2 := hb2.size
    have HB2 : Hid (Below w.heap.size w w2) := HB1.out.trans (hb2.mono (by omega))
    clear ho2 hb2 hI2 hno2
    go_wp2_with (at_builtin; refine wpE_append rfl (.tmp 22) (.tmp 25) rfl (w.heap.size + 1) v1 (vint (8 * num + 1).toNat) rfl (.inl HO2.out) a2 8 c2 (lob n 8) rfl HI2.out HN2.out (by have := HK.out; omega) (by omega) ?_; intro v3 w3 hown3 hb3)
    go_ret
    have h3 := ownE_full hown3 (by rw [List.length_append, lob_length]; omega)
    exact ⟨_, rfl, own_mono h3 (by omega), HB2.out.trans (hb3.mono (by omega))⟩
  · go_wp2_with fail
    refine (lowR_any n 4 _ hn0 hn1 (by omega)).mono ?_
    rintro e w2 ⟨v2, rfl, ho2, hb2⟩
    obtain ⟨a2, c2, rfl, hI2, _, hno2⟩ := own_isB ho2 (lob_bytes _ _) (by rw [lob_length]; omega)
    rw [lob_length] at hI2 hno2 ⊢
    have HI2 : Hid (IsB w2 a2 4 (lob n 4)) := hI2
    have HN2 : Hid (a2 = none → 4 = 0 ∧ c2 = 0) := hno2
    have HO2 : Hid (OwnB w2 (w.heap.size + 1) v1 (vint (8 * num + 5).toNat)) := own_old HO1.out hb2
    have hz2 := hb2.size
    have HB2 : Hid (Below w.heap.size w w2) := HB1.out.trans (hb2.mono (by omega))
    clear ho2 hb2 hI2 hno2
    go_wp2_with (at_builtin; refine wpE_append rfl (.tmp 29) (.tmp 32) rfl (w.heap.size + 1) v1 (vint (8 * num + 5).toNat) rfl (.inl HO2.out) a2 4 c2 (lob n 4) rfl HI2.out HN2.out (by have := HK.out; omega) (by omega) ?_; intro v3 w3 hown3 hb3)
    go_ret
    have h3 := ownE_full hown3 (by rw [List.length_append, lob_length]; omega)
    exact ⟨_, rfl, own_mono h3 (by omega), HB2.out.trans (hb3.mono (by omega))⟩
  · have HBb : Hid (IsB w1 a len d) := isB_old HB.out HB1.out
    have HDL : Hid (d.length = len) := HB.out.1
    have hlI : (0 : Int) ≤ (len : Int) ∧ (len : Int) ≤ 18446744073709551615 := by omega
    have hwl : IntKind.u64.wrap (len : Int) = (len : Int) := wraps_u64 _ (by omega) (by omega)
    have HKl : Hid ((vint len).length ≤ 10) := vint_ten (by omega)
    have HBd : Hid (Below w1.heap.size w1 w1.drew) := (Below.refl _ _).drew
    go_wp2_with fail
    go_region_law (first
      | ((refine stepE_append rfl (.tmp 39) (.tmp 41) rfl (w.heap.size + 1) v2 (vint (8 * num + 2).toNat ++ vint len) rfl (.inl ho2) a len cap d rfl hBb2 HNO.out (by rw [List.length_append]; have := HK.out; have := HKl.out; omega) hz2 ?_); intro v3 w3 hown3 hb3)
      | (go_simp; go_at_call 12; refine (varintR_int _ (w.heap.size + 1) _ _ _ (.inl (own_old HO1.out HBd.out)) (by omega) (by omega) (by have := HK.out; omega) (by simpa using hz1)).mono ?_; rintro e w2 ⟨v2, rfl, ho2, hb2⟩; rw [Int.toNat_natCast] at ho2; have hb02 : Below w.heap.size w w2 := HB1.out.trans (HBd.out.mono (by omega) |>.trans (hb2.mono (by omega))); have hBb2 := isB_old HB.out hb02; have hz2 : w.heap.size + 1 ≤ w2.heap.size := (by have := hb2.size; simp at this; omega); have d3 : w2.cell? ⟨w.heap.size, 3, none⟩ = some (.slice a len cap) := (hb2.cell (by simp)).trans (by simpa using c3)))
    all_goals
      have h3 := ownE_full hown3 (by rw [List.length_append, List.length_append]; have := vint_pos len; omega)
      have HO3 : Hid (OwnB w3 w.heap.size v3 (fbytes num 2 n d)) := by
        have := own_mono h3 (show w.heap.size ≤ w.heap.size + 1 by omega)
        rw [List.append_assoc] at this
        refine (?_ : OwnB w3 w.heap.size v3 (fbytes num 2 n d))
        unfold fbytes
        simpa [HDL.out] using this
      have HB3 : Hid (Below w.heap.size w w3) := hb02.trans (hb3.mono (by omega))
      clear h3 hown3 hb3
      go_wp2_with fail
      go_ret
      exact ⟨_, rfl, HO3.out, HB3.out⟩
end Go.Proofs.YtfhmombnipfimabGreatDoor
