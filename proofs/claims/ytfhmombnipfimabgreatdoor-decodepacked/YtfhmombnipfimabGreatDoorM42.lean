/-
  The walk over the document's own Bytes: the bytes of a field, in new memory; nothing that was there is changed.
-/
import Derived.Test.YtfhmombnipfimabGreatDoorM41
import Derived.Test.YtfhmombnipfimabGreatDoorM9
import Derived.Test.YtfhmombnipfimabGreatDoorM4
import Derived.Deep.RegionLaw
namespace Go.Proofs.YtfhmombnipfimabGreatDoor
set_option linter.unusedVariables false
open Go.ChangeShapes Go.WideShapes Go.ChangeAt Go.RowKit

set_option maxRecDepth 20000 in
set_option maxHeartbeats 2000000 in
theorem bytesR_any (num ty n : Int) (a : Option Addr) (len cap : Nat) (d : List Int) (w : World) (hB : IsB w a len d) (hn0 : 0 ≤ n) (hn1 : n ≤ 18446744073709551615)
    (hm0 : 1 ≤ num) (hm1 : num ≤ 536870911) (ht : ty = 0 ∨ ty = 1 ∨ ty = 5 ∨ ty = 2) (hl : len ≤ 140737488351232) (hno : a = none → len = 0 ∧ cap = 0) :
    Calls Tryz.prog 13 #[fv num ty n a len cap] w fun e w' => ∃ v', e = .returned v' ∧ OwnB w' w.heap.size v' (fbytes num ty n d) ∧ Below w.heap.size w w' := by
  have HT : Hid (0 ≤ ty ∧ ty ≤ 5) := by
    refine (?_ : 0 ≤ ty ∧ ty ≤ 5); omega
  have HB : Hid (IsB w a len d) := hB
  have HNO : Hid (a = none → len = 0 ∧ cap = 0) := hno
  have ht5 : 0 ≤ ty ∧ ty ≤ 5 := HT.out
  clear hB hno
  unfold fv
  go_enter Tryz.func13, Tryz.ntmps13
  go_wp2_with fail
  refine (varintR_int _ (w.heap.size + 1) [] _ _ (.inl (own_nil _ _)) (by omega) (by omega) (by simp) (by simp)).mono ?_
  rintro e w1 ⟨v1, rfl, ho1, hb1⟩
  rw [List.nil_append] at ho1
  have hz1 := hb1.size
  simp only [World.size_alloc] at hz1
  have c1 : w1.cell? ⟨w.heap.size, 1, none⟩ = some (.int .i64 ty) := (hb1.cell (by simp)).trans (by simp)
  have c2 : w1.cell? ⟨w.heap.size, 2, none⟩ = some (.int .u64 n) := (hb1.cell (by simp)).trans (by simp)
  have c3 : w1.cell? ⟨w.heap.size, 3, none⟩ = some (.slice a len cap) := (hb1.cell (by simp)).trans (by simp)
  have HB1 : Hid (Below w.heap.size w w1) := ((Below.refl _ _).alloc (Nat.le_refl _) _).trans (hb1.mono (by omega))
  have HO1 : Hid (OwnB w1 (w.heap.size + 1) v1 (vint (8 * num + ty).toNat)) := ho1
  have HK : Hid ((vint (8 * num + ty).toNat).length ≤ 10) := vint_ten (by omega)
  clear ho1 hb1
  rcases ht with rfl | rfl | rfl | rfl
  · go_wp2_with fail
    refine (varintR_int _ (w.heap.size + 1) _ _ _ (.inl HO1.out) hn0 hn1 (by have := HK.out; omega) (by omega)).mono ?_
    rintro e w2 ⟨v2, rfl, ho2, hb2⟩
    have HO2 : Hid (OwnB w2 w.heap.size v2 (fbytes num 0 n d)) := own_mono ho2 (by omega)
    have HB2 : Hid (Below w.heap.size w w2) := HB1.out.trans (hb2.mono (by omega))
    clear ho2 hb2
    go_wp2_with fail
    go_ret
    exact ⟨_, rfl, HO2.out, HB2.out⟩
  · go_wp2_with fail
    refine (lowR_any n 8 _ hn0 hn1 (by omega)).mono ?_
    rintro e w2 ⟨v2, rfl, ho2, hb2⟩
    obtain ⟨a2, c2, rfl, hI2, _, hno2⟩ := own_isB ho2 (lob_bytes _ _) (by rw [lob_length]; omega)
    rw [lob_length] at hI2 hno2 ⊢
    have HI2 : Hid (IsB w2 a2 8 (lob n 8)) := hI2
    have HN2 : Hid (a2 = none → 8 = 0 ∧ c2 = 0) := hno2
    have HO2 : Hid (OwnB w2 (w.heap.size + 1) v1 (vint (8 * num + 1).toNat)) := own_old HO1.out hb2
    have hz2 := hb2.size
    have HB2 : Hid (Below w.heap.size w w2) := HB1.out.trans (hb2.mono (by omega))
    clear ho2 hb2 hI2 hno2
    go_wp2_with (at_builtin; refine wpE_append rfl (.tmp 22) (.tmp 25) rfl (w.heap.size + 1) v1 (vint (8 * num + 1).toNat) rfl (.inl HO2.out) a2 8 c2 (lob n 8) rfl HI2.out HN2.out (by have := HK.out; omega) (by omega) ?_; intro v3 w3 hown3 hb3)
    go_ret
    have h3 := ownE_full hown3 (by rw [List.length_append, lob_length]; omega)
    exact ⟨_, rfl, own_mono h3 (by omega), HB2.out.trans (hb3.mono (by omega))⟩
  · go_wp2_with fail
    refine (lowR_any n 4 _ hn0 hn1 (by omega)).mono ?_
    rintro e w2 ⟨v2, rfl, ho2, hb2⟩
    obtain ⟨a2, c2, rfl, hI2, _, hno2⟩ := own_isB ho2 (lob_bytes _ _) (by rw [lob_length]; omega)
    rw [lob_length] at hI2 hno2 ⊢
    have HI2 : Hid (IsB w2 a2 4 (lob n 4)) := hI2
    have HN2 : Hid (a2 = none → 4 = 0 ∧ c2 = 0) := hno2
    have HO2 : Hid (OwnB w2 (w.heap.size + 1) v1 (vint (8 * num + 5).toNat)) := own_old HO1.out hb2
    have hz2 := hb2.size
    have HB2 : Hid (Below w.heap.size w w2) := HB1.out.trans (hb2.mono (by omega))
    clear ho2 hb2 hI2 hno2
    go_wp2_with (at_builtin; refine wpE_append rfl (.tmp 29) (.tmp 32) rfl (w.heap.size + 1) v1 (vint (8 * num + 5).toNat) rfl (.inl HO2.out) a2 4 c2 (lob n 4) rfl HI2.out HN2.out (by have := HK.out; omega) (by omega) ?_; intro v3 w3 hown3 hb3)
    go_ret
    have h3 := ownE_full hown3 (by rw [List.length_append, lob_length]; omega)
    exact ⟨_, rfl, own_mono h3 (by omega), HB2.out.trans (hb3.mono (by omega))⟩
  · have HBb : Hid (IsB w1 a len d) := isB_old HB.out HB1.out
    have HDL : Hid (d.length = len) := HB.out.1
    have hlI : (0 : Int) ≤ (len : Int) ∧ (len : Int) ≤ 18446744073709551615 := by omega
    have hwl : IntKind.u64.wrap (len : Int) = (len : Int) := wraps_u64 _ (by omega) (by omega)
    have HKl : Hid ((vint len).length ≤ 10) := vint_ten (by omega)
    have HBd : Hid (Below w1.heap.size w1 w1.drew) := (Below.refl _ _).drew
    go_wp2_with fail
    go_region_law (first
      | ((refine stepE_append rfl (.tmp 39) (.tmp 41) rfl (w.heap.size + 1) v2 (vint (8 * num + 2).toNat ++ vint len) rfl (.inl ho2) a len cap d rfl hBb2 HNO.out (by rw [List.length_append]; have := HK.out; have := HKl.out; omega) hz2 ?_); intro v3 w3 hown3 hb3)
      | (go_simp; go_at_call 12; refine (varintR_int _ (w.heap.size + 1) _ _ _ (.inl (own_old HO1.out HBd.out)) (by omega) (by omega) (by have := HK.out; omega) (by simpa using hz1)).mono ?_; rintro e w2 ⟨v2, rfl, ho2, hb2⟩; rw [Int.toNat_natCast] at ho2; have hb02 : Below w.heap.size w w2 := HB1.out.trans (HBd.out.mono (by omega) |>.trans (hb2.mono (by omega))); have hBb2 := isB_old HB.out hb02; have hz2 : w.heap.size + 1 ≤ w2.heap.size := (by have := hb2.size; simp at this; omega); have d3 : w2.cell? ⟨w.heap.size, 3, none⟩ = some (.slice a len cap) := (hb2.cell (by simp)).trans (by simpa using c3)))
    all_goals
      have h3 := ownE_full hown3 (by rw [List.length_append, List.length_append]; have := vint_pos len; omega)
      have HO3 : Hid (OwnB w3 w.heap.size v3 (fbytes num 2 n d)) := by
        have := own_mono h3 (show w.heap.size ≤ w.heap.size + 1 by omega)
        rw [List.append_assoc] at this
        refine (?_ : OwnB w3 w.heap.size v3 (fbytes num 2 n d))
        unfold fbytes
        simpa [HDL.out] using this
      have HB3 : Hid (Below w.heap.size w w3) := hb02.trans (hb3.mono (by omega))
      clear h3 hown3 hb3
      go_wp2_with fail
      go_ret
      exact ⟨_, rfl, HO3.out, HB3.out⟩
end Go.Proofs.YtfhmombnipfimabGreatDoor
